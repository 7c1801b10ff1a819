/- Contracts: the reference's first two exchanges that contradict each other. -/
import Derived.Test.YtmdmkmfemhkfgaaE18
set_option linter.unusedSimpArgs false
set_option linter.unusedVariables false
set_option linter.unusedSimpArgs false
set_option linter.unusedVariables false
namespace Go.Proofs.Ytmdmkmfemhkfgaa
open Go.RowKit
set_option maxRecDepth 100000

/-- An offset has a number. -/
theorem offV_ne {x : PT} {d t : Int} (hx : exE x = 0) (hd : driftE d = 0) (hT : tickE t = 0) : (offV x d t).1 ≤ (offV x d t).2 := by
  obtain ⟨⟨s0, s1⟩, ⟨t0, t1⟩, ⟨r0, r1⟩, hsr⟩ := exE_zero hx
  obtain ⟨d0, d1⟩ := driftE_zero hd
  obtain ⟨T0, T1⟩ := tickE_zero hT
  have hf := farE_bd ⟨s0, s1⟩ ⟨r0, r1⟩ ⟨T0, T1⟩
  have hm := mul_bd d0 d1 hf.1 hf.2
  have h1 := (upD_bd hm.1 (show (1 : Int) ≤ 1000 by omega)).1
  unfold offV
  dsimp only
  omega
theorem clash_eq {a b : G} (ha : a.1 ≤ a.2) (hb : b.1 ≤ b.2) : clash a b = (decide (a.2 < b.1) || decide (b.2 < a.1)) := by
  unfold clash comR
  dsimp only
  rw [Bool.eq_iff_iff]
  simp
  omega
theorem Blk.dr {w : World} {g : Nat} {t : TypeId} {cs : List Value} (h : Blk w g t cs) : Blk w.drew g t cs := h
theorem Blk.set2 {w : World} {g : Nat} {t : TypeId} {a b : Value} (h : Blk w g t [a, b]) (u v : Value) : Blk ((w.setCell ⟨g, 0, none⟩ u).setCell ⟨g, 1, none⟩ v) g t [u, v] := (h.set_ 0 u).set_ 1 v
theorem Blk.new1 (w : World) (o : Obj) (t : TypeId) (cs : List Value) : Blk ((w.alloc o).alloc (.cells cs.toArray t)) (w.heap.size + 1) t cs := by
  have := Blk.new (w.alloc o) t cs
  simpa using this
theorem Blk.newD (w : World) (t : TypeId) (cs : List Value) : Blk (w.drew.alloc (.cells cs.toArray t)) w.heap.size t cs := Blk.new w.drew t cs
theorem Blk.new1D (w : World) (o : Obj) (t : TypeId) (cs : List Value) : Blk ((w.drew.alloc o).alloc (.cells cs.toArray t)) (w.heap.size + 1) t cs := Blk.new1 w.drew o t cs
theorem Blk.newS (w : World) (p q : Addr) (u v : Value) (t : TypeId) (cs : List Value) : Blk (((w.setCell p u).setCell q v).alloc (.cells cs.toArray t)) w.heap.size t cs := by
  have := Blk.new ((w.setCell p u).setCell q v) t cs
  rwa [show ((w.setCell p u).setCell q v).heap.size = w.heap.size by simp [World.setCell]] at this
theorem Blk.far2 {w : World} {g p : Nat} {t : TypeId} {cs : List Value} (h : Blk w g t cs) (hne : g ≠ p) (u v : Value) : Blk ((w.setCell ⟨p, 0, none⟩ u).setCell ⟨p, 1, none⟩ v) g t cs := (h.far hne u).far hne v
/-- What the reference's Pair answers. -/
def PairPost (L : List G) (e : Ending) : Prop :=
  (∃ i j : Nat, First L (some (i, j)) ∧ e = .returned (.tuple #[.agg #[.int .i64 (i : Int), .int .i64 (j : Int)], .bool true])) ∨
  (First L none ∧ e = .returned (.tuple #[.agg #[.int .i64 0, .int .i64 0], .bool false]))
set_option maxHeartbeats 4000000 in
theorem refPair_c (A : Option Addr) (c : Nat) (l : List PT) (drift T : Int) (w : World) (hr : Rd w A (ps l)) (hl : l.length ≤ 1000) (he : offE l drift T = 0) :
    Calls Try.prog 22 #[.slice A l.length c, .int .i64 drift, .int .i64 T] w fun e w' => PairPost (offL l drift T) e ∧ Below w.heap.size w w' := by
  have hO := offE_zero he
  have HO := hide (fun (k : Nat) (h : k < l.length) W => refOffsetBy_c l[k].1 l[k].2.1 l[k].2.2 drift T W (hO.ex k h) hO.d hO.t)
  have HNE := hide (fun (k : Nat) (h : k < l.length) => offV_ne (hO.ex k h) hO.d hO.t)
  have HL := hide (fun (k : Nat) (h : k < l.length) => show (offL l drift T).getD k (0, 0) = offV l[k] drift T by rw [getD_at' (by simpa using h), offL_at h])
  have hLl := offL_length l drift T
  clear he hO
  generalize offL l drift T = L at HL hLl ⊢
  have hY0 := Blk.new w 42 [.int .i64 0, .int .i64 0]
  have hB0 := alloc_bel w (.cells #[.int .i64 0, .int .i64 0] 42)
  have hr0 := hr.alloc (.cells #[.int .i64 0, .int .i64 0] 42)
  have hz := hY0.lt
  obtain ⟨w1, hw1⟩ : ∃ W, w.alloc (.cells #[.int .i64 0, .int .i64 0] 42) = W := ⟨_, rfl⟩
  rw [hw1] at hY0 hB0 hr0 hz
  have HW := hide hw1
  clear hw1 hr
  go_enter Try.func22, Try.ntmps22
  go_wp2
  rw [HW.out]
  go_loopw [8] (fun x wr => ∃ k : Nat, k ≤ l.length ∧ x = .int .i64 k ∧ Below w1.heap.size w1 wr ∧ Hid (∀ i', i' < k → ∀ j', i' < j' → j' < L.length → clashAt L i' j' = false)) (fun x _ => l.length - (intOf x).toNat)
  case atStart => exact ⟨0, Nat.zero_le _, rfl, Below.refl _ _, fun _ h => by omega⟩
  case round =>
    obtain ⟨k, hk, rfl, hbr, h0⟩ := hrel
    have hsr := hbr.size
    by_cases hlt : k < l.length
    · go_wp2
      go_loopw [9] (fun x wi => ∃ m : Nat, k + 1 ≤ m ∧ m ≤ l.length ∧ x = .int .i64 m ∧ Below w1.heap.size w1 wi ∧ Hid (∀ j', k < j' → j' < m → clashAt L k j' = false)) (fun x _ => l.length - (intOf x).toNat)
      case atStart => exact ⟨k + 1, by omega, by omega, by go_num, hbr, fun _ _ _ => by omega⟩
      case round =>
        obtain ⟨m, hm1, hm, rfl, hbi, h1⟩ := hrel
        have hri := hr0.bel hbi
        have hsi := hbi.size
        have hYi := hY0.bel hbi
        by_cases hltm : m < l.length
        · obtain ⟨b, off, rfl, hblt, x0, x1, x2⟩ := hri.p_at hlt
          obtain ⟨_, y0, y1, y2⟩ := hri.p_in hltm
          have HOA := hide (HO.out k hlt)
          have HOB := hide (HO.out m hltm)
          rw [show (l[k].1, l[k].2.1, l[k].2.2) = l[k] from rfl] at HOA
          rw [show (l[m].1, l[m].2.1, l[m].2.2) = l[m] from rfl] at HOB
          have HCL : Hid (clashAt L k m = (decide ((offV l[k] drift T).2 < (offV l[m] drift T).1) || decide ((offV l[m] drift T).2 < (offV l[k] drift T).1))) := by
            show _ = _
            unfold clashAt
            rw [HL.out k hlt, HL.out m hltm, clash_eq (HNE.out k hlt) (HNE.out m hltm)]
          generalize offV l[k] drift T = ga at HOA HCL
          generalize offV l[m] drift T = gb at HOB HCL
          obtain ⟨a1, a2⟩ := ga
          obtain ⟨b1, b2⟩ := gb
          dsimp only at HOA HOB HCL
          have i0 : (m : Int) < (l.length : Int) := by omega
          have i1 : (k : Int) < (l.length : Int) := by omega
          have hxy : ¬ (l[k].1 = l[m].1 ∧ l[k].2.1 = l[m].2.1 ∧ l[k].2.2 = l[m].2.2) ∨ True := .inr trivial
          clear hxy
          go_upto_region 7 with fail
          go_cut [10, 11] from 26 to 51 (fun t10 t11 wx => ∃ g h : Nat, t10 = .pointer (some ⟨g, 0, none⟩) ∧ t11 = .pointer (some ⟨h, 0, none⟩) ∧ Blk wx g 26 [.int .i64 a1, .int .i64 a2] ∧ Blk wx h 26 [.int .i64 b1, .int .i64 b2] ∧ Below wr.heap.size wr wx)
          case first =>
            go_region_held3 (fun w' => (∀ b o, b < wr.heap.size → w'.cell? ⟨b, o, none⟩ = wr.cell? ⟨b, o, none⟩) ∧ Below wr.heap.size wr w')
              ((refine kp ?_; (repeat' (first | with_reducible exact Below.refl _ _ | with_reducible exact HB1.out | with_reducible exact HB2.out | with_reducible refine Below.drew ?_ | with_reducible refine bel_alloc ?_ ?_ _ | with_reducible refine Below.setCell ?_ ?_ _)); all_goals (first | omega | (simp <;> omega))))
              (first
                | (have _g := HB1; go_at_call 18; refine (HOB.out _).mono ?_; rintro e_ w6 ⟨rfl, hb6⟩; have HB2 : Hid (Below wr.heap.size wr w6) := (by refine hide (Below.trans ?_ (hb6.mono ?_)); (repeat' (first | with_reducible exact Below.refl _ _ | with_reducible exact HB1.out | with_reducible exact HB2.out | with_reducible refine Below.drew ?_ | with_reducible refine bel_alloc ?_ ?_ _ | with_reducible refine Below.setCell ?_ ?_ _)); all_goals (first | omega | (simp <;> omega))); have s2 := HB2.out.size; (try (refine (have B5 : Blk w6 (wr.heap.size) 26 [.int .i64 0, .int .i64 0] := ?_; ?_); (focus ((repeat' (first | with_reducible exact Blk.new _ _ [_, _] | with_reducible exact Blk.new1 _ _ _ [_, _] | with_reducible exact Blk.newD _ _ [_, _] | with_reducible exact Blk.new1D _ _ _ [_, _] | with_reducible refine Blk.dr ?_ | with_reducible refine Blk.bel ?_ (alloc_bel _ _) | with_reducible refine Blk.bel ?_ hb6 | with_reducible refine Blk.bel ?_ hb5)); done)); have c50 := B5.cell 0; have c51 := B5.cell 1; simp only [List.getElem?_cons_zero, List.getElem?_cons_succ] at c50 c51; have d50 := B5.frozen 0; have d51 := B5.frozen 1; have l5 := B5.lt; clear B5)); (try (refine (have B6 : Blk w6 (wr.heap.size + 1) 26 [.int .i64 0, .int .i64 0] := ?_; ?_); (focus ((repeat' (first | with_reducible exact Blk.new _ _ [_, _] | with_reducible exact Blk.new1 _ _ _ [_, _] | with_reducible exact Blk.newD _ _ [_, _] | with_reducible exact Blk.new1D _ _ _ [_, _] | with_reducible refine Blk.dr ?_ | with_reducible refine Blk.bel ?_ (alloc_bel _ _) | with_reducible refine Blk.bel ?_ hb6 | with_reducible refine Blk.bel ?_ hb5)); done)); have c60 := B6.cell 0; have c61 := B6.cell 1; simp only [List.getElem?_cons_zero, List.getElem?_cons_succ] at c60 c61; have d60 := B6.frozen 0; have d61 := B6.frozen 1; have l6 := B6.lt; clear B6)); (try (refine (have B7 : Blk w6 (w5.heap.size) 26 [.int .i64 0, .int .i64 0] := ?_; ?_); (focus ((repeat' (first | with_reducible exact Blk.new _ _ [_, _] | with_reducible exact Blk.new1 _ _ _ [_, _] | with_reducible exact Blk.newD _ _ [_, _] | with_reducible exact Blk.new1D _ _ _ [_, _] | with_reducible refine Blk.dr ?_ | with_reducible refine Blk.bel ?_ (alloc_bel _ _) | with_reducible refine Blk.bel ?_ hb6)); done)); have c70 := B7.cell 0; have c71 := B7.cell 1; simp only [List.getElem?_cons_zero, List.getElem?_cons_succ] at c70 c71; have d70 := B7.frozen 0; have d71 := B7.frozen 1; have l7 := B7.lt; clear B7)); (try (refine (have B8 : Blk w6 (w5.heap.size + 1) 26 [.int .i64 0, .int .i64 0] := ?_; ?_); (focus ((repeat' (first | with_reducible exact Blk.new _ _ [_, _] | with_reducible exact Blk.new1 _ _ _ [_, _] | with_reducible exact Blk.newD _ _ [_, _] | with_reducible exact Blk.new1D _ _ _ [_, _] | with_reducible refine Blk.dr ?_ | with_reducible refine Blk.bel ?_ (alloc_bel _ _) | with_reducible refine Blk.bel ?_ hb6)); done)); have c80 := B8.cell 0; have c81 := B8.cell 1; simp only [List.getElem?_cons_zero, List.getElem?_cons_succ] at c80 c81; have d80 := B8.frozen 0; have d81 := B8.frozen 1; have l8 := B8.lt; clear B8)))
                | (go_at_call 18; refine (HOA.out _).mono ?_; rintro e_ w5 ⟨rfl, hb5⟩; have HB1 : Hid (Below wr.heap.size wr w5) := (by refine hide (Below.trans ?_ (hb5.mono ?_)); (repeat' (first | with_reducible exact Below.refl _ _ | with_reducible exact HB1.out | with_reducible exact HB2.out | with_reducible refine Below.drew ?_ | with_reducible refine bel_alloc ?_ ?_ _ | with_reducible refine Below.setCell ?_ ?_ _)); all_goals (first | omega | (simp <;> omega))); have s1 := HB1.out.size; have z0 := (HB1.out.cell (p := ⟨b, off + m * 3, none⟩) hblt).trans y0; have z1 := (HB1.out.cell (p := ⟨b, off + m * 3 + 1, none⟩) hblt).trans y1; have z2 := (HB1.out.cell (p := ⟨b, off + m * 3 + 2, none⟩) hblt).trans y2; (try (refine (have B3 : Blk w5 (wr.heap.size) 26 [.int .i64 0, .int .i64 0] := ?_; ?_); (focus ((repeat' (first | with_reducible exact Blk.new _ _ [_, _] | with_reducible exact Blk.new1 _ _ _ [_, _] | with_reducible exact Blk.newD _ _ [_, _] | with_reducible exact Blk.new1D _ _ _ [_, _] | with_reducible refine Blk.dr ?_ | with_reducible refine Blk.bel ?_ (alloc_bel _ _) | with_reducible refine Blk.bel ?_ hb5)); done)); have c30 := B3.cell 0; have c31 := B3.cell 1; simp only [List.getElem?_cons_zero, List.getElem?_cons_succ] at c30 c31; have d30 := B3.frozen 0; have d31 := B3.frozen 1; have l3 := B3.lt; clear B3)); (try (refine (have B4 : Blk w5 (wr.heap.size + 1) 26 [.int .i64 0, .int .i64 0] := ?_; ?_); (focus ((repeat' (first | with_reducible exact Blk.new _ _ [_, _] | with_reducible exact Blk.new1 _ _ _ [_, _] | with_reducible exact Blk.newD _ _ [_, _] | with_reducible exact Blk.new1D _ _ _ [_, _] | with_reducible refine Blk.dr ?_ | with_reducible refine Blk.bel ?_ (alloc_bel _ _) | with_reducible refine Blk.bel ?_ hb5)); done)); have c40 := B4.cell 0; have c41 := B4.cell 1; simp only [List.getElem?_cons_zero, List.getElem?_cons_succ] at c40 c41; have d40 := B4.frozen 0; have d41 := B4.frozen 1; have l4 := B4.lt; clear B4))))
            all_goals
              go_wp2
              go_meet
              refine ⟨_, _, rfl, rfl, ?_, ?_, ?_⟩
              · (repeat' (first | with_reducible exact Blk.new _ _ [_, _] | with_reducible exact Blk.newS _ _ _ _ _ _ [_, _] | with_reducible exact Blk.new1 _ _ _ [_, _] | with_reducible exact Blk.newD _ _ [_, _] | with_reducible exact Blk.new1D _ _ _ [_, _] | with_reducible refine Blk.set2 (a := .int .i64 0) (b := .int .i64 0) ?_ _ _ | with_reducible refine Blk.far2 ?_ ?_ _ _ | with_reducible refine Blk.dr ?_ | with_reducible refine Blk.bel ?_ (alloc_bel _ _) | with_reducible refine Blk.bel ?_ hb6 | with_reducible refine Blk.bel ?_ hb5)); all_goals (first | omega | (simp <;> omega))
              · (repeat' (first | with_reducible exact Blk.new _ _ [_, _] | with_reducible exact Blk.newS _ _ _ _ _ _ [_, _] | with_reducible exact Blk.new1 _ _ _ [_, _] | with_reducible exact Blk.newD _ _ [_, _] | with_reducible exact Blk.new1D _ _ _ [_, _] | with_reducible refine Blk.set2 (a := .int .i64 0) (b := .int .i64 0) ?_ _ _ | with_reducible refine Blk.far2 ?_ ?_ _ _ | with_reducible refine Blk.dr ?_ | with_reducible refine Blk.bel ?_ (alloc_bel _ _) | with_reducible refine Blk.bel ?_ hb6 | with_reducible refine Blk.bel ?_ hb5)); all_goals (first | omega | (simp <;> omega))
              · (repeat' (first | with_reducible exact Below.refl _ _ | with_reducible exact HB1.out | with_reducible exact HB2.out | with_reducible refine Below.drew ?_ | with_reducible refine bel_alloc ?_ ?_ _ | with_reducible refine Below.setCell ?_ ?_ _)); all_goals (first | omega | (simp <;> omega))
          obtain ⟨g, h, rfl, rfl, hG, hH, hBc⟩ := hcut
          obtain ⟨w7, hw7⟩ : ∃ w7 : World, wc = w7 := ⟨_, rfl⟩
          rw [hw7] at hG hH hBc ⊢
          clear hw7
          have hY7 := hYi.bel hBc
          have hb7 : Below w1.heap.size w1 w7 := hbi.trans (hBc.mono hsi)
          have hB7 := bel_tr hB0 hB0.size hb7
          have p0 := hG.cell 0; have p1 := hG.cell 1; simp only [List.getElem?_cons_zero, List.getElem?_cons_succ] at p0 p1
          have q0 := hH.cell 0; have q1 := hH.cell 1; simp only [List.getElem?_cons_zero, List.getElem?_cons_succ] at q0 q1
          have f0 := hY7.frozen 0
          have f1 := hY7.frozen 1
          have hz7 := hY7.lt
          have v0 := hY7.cell 0; have v1 := hY7.cell 1; simp only [List.getElem?_cons_zero, List.getElem?_cons_succ] at v0 v1
          clear x0 x1 x2 y0 y1 y2 HOA HOB
          by_cases h1c : a2 < b1
          · have e1 : decide (a2 < b1) = true := decide_eq_true h1c
            have HC : Hid (clashAt L k m = true) := by show _ = _; rw [HCL.out, e1]; rfl
            clear h1c HCL
            go_wp2
            obtain ⟨WE, hWE⟩ : ∃ WE, (w7.setCell ⟨w.heap.size, 0, none⟩ (.int .i64 (k : Int))).setCell ⟨w.heap.size, 1, none⟩ (.int .i64 (m : Int)) = WE := ⟨_, rfl⟩
            rw [hWE]
            have hE : Blk WE w.heap.size 42 [.int .i64 (k : Int), .int .i64 (m : Int)] := by rw [← hWE]; exact (hY7.set_ 0 _).set_ 1 _
            have hBE : Below w.heap.size w WE := by rw [← hWE]; exact (hB7.setCell (Nat.le_refl _) _).setCell (Nat.le_refl _) _
            clear hWE
            have y0 := hE.cell 0; have y1 := hE.cell 1; simp only [List.getElem?_cons_zero, List.getElem?_cons_succ] at y0 y1
            refine bodyPost_ret (v := .tuple #[.agg #[.int .i64 (k : Int), .int .i64 (m : Int)], .bool true]) (by simp [results, Try.results22, go_sem, y0, y1]; try rfl) rfl ⟨?_, hBE⟩
            exact .inl ⟨k, m, ⟨by omega, by omega, HC.out, h0.out, fun j' h2 h3 => h1.out j' h2 h3⟩, rfl⟩
          · have e1 : decide (a2 < b1) = false := decide_eq_false h1c
            by_cases h2c : b2 < a1
            · have e2 : decide (b2 < a1) = true := decide_eq_true h2c
              have HC : Hid (clashAt L k m = true) := by show _ = _; rw [HCL.out, e1, e2]; rfl
              clear h1c h2c HCL
              go_wp2
              obtain ⟨WE, hWE⟩ : ∃ WE, (w7.setCell ⟨w.heap.size, 0, none⟩ (.int .i64 (k : Int))).setCell ⟨w.heap.size, 1, none⟩ (.int .i64 (m : Int)) = WE := ⟨_, rfl⟩
              rw [hWE]
              have hE : Blk WE w.heap.size 42 [.int .i64 (k : Int), .int .i64 (m : Int)] := by rw [← hWE]; exact (hY7.set_ 0 _).set_ 1 _
              have hBE : Below w.heap.size w WE := by rw [← hWE]; exact (hB7.setCell (Nat.le_refl _) _).setCell (Nat.le_refl _) _
              clear hWE
              have y0 := hE.cell 0; have y1 := hE.cell 1; simp only [List.getElem?_cons_zero, List.getElem?_cons_succ] at y0 y1
              refine bodyPost_ret (v := .tuple #[.agg #[.int .i64 (k : Int), .int .i64 (m : Int)], .bool true]) (by simp [results, Try.results22, go_sem, y0, y1]; try rfl) rfl ⟨?_, hBE⟩
              exact .inl ⟨k, m, ⟨by omega, by omega, HC.out, h0.out, fun j' h2 h3 => h1.out j' h2 h3⟩, rfl⟩
            · have e2 : decide (b2 < a1) = false := decide_eq_false h2c
              have HC : Hid (clashAt L k m = false) := by show _ = _; rw [HCL.out, e1, e2]; rfl
              have H1 : Hid (∀ j', k < j' → j' < m + 1 → clashAt L k j' = false) := fun j' h2 h3 => by
                by_cases e : j' = m
                · subst e; exact HC.out
                · exact h1.out j' h2 (by omega)
              clear h1c h2c HCL
              go_wp2
              exact ⟨⟨m + 1, by omega, by omega, by go_num, hb7, H1⟩, by simp [intOf]; omega⟩
        · obtain rfl : m = l.length := by omega
          have H1 : Hid (∀ i', i' < k + 1 → ∀ j', i' < j' → j' < L.length → clashAt L i' j' = false) := fun i' h2 j' h3 h4 => by
            by_cases e : i' = k
            · subst e; exact h1.out j' h3 (by omega)
            · exact h0.out i' (by omega) j' h3 h4
          go_wp2
          exact ⟨⟨k + 1, by omega, by go_num, hbi, H1⟩, by simp [intOf]; omega⟩
    · obtain rfl : k = l.length := by omega
      have hYr := hY0.bel hbr
      have hBr : Below w.heap.size w wr := bel_tr hB0 hB0.size hbr
      have f0 := hYr.frozen 0
      have f1 := hYr.frozen 1
      have hzY := hYr.lt
      have v0 := hYr.cell 0; have v1 := hYr.cell 1; simp only [List.getElem?_cons_zero, List.getElem?_cons_succ] at v0 v1
      go_wp2
      obtain ⟨WE, hWE⟩ : ∃ WE, (wr.setCell ⟨w.heap.size, 0, none⟩ (.int .i64 0)).setCell ⟨w.heap.size, 1, none⟩ (.int .i64 0) = WE := ⟨_, rfl⟩
      rw [hWE]
      have hE : Blk WE w.heap.size 42 [.int .i64 0, .int .i64 0] := by rw [← hWE]; exact (hYr.set_ 0 _).set_ 1 _
      have hBE : Below w.heap.size w WE := by rw [← hWE]; exact (hBr.setCell (Nat.le_refl _) _).setCell (Nat.le_refl _) _
      clear hWE
      have y0 := hE.cell 0; have y1 := hE.cell 1; simp only [List.getElem?_cons_zero, List.getElem?_cons_succ] at y0 y1
      refine bodyPost_ret (v := .tuple #[.agg #[.int .i64 0, .int .i64 0], .bool false]) (by simp [results, Try.results22, go_sem, y0, y1]; try rfl) rfl ⟨?_, hBE⟩
      exact .inr ⟨fun i h2 j h3 h4 => h0.out i (by omega) j h3 h4, rfl⟩
end Go.Proofs.Ytmdmkmfemhkfgaa
