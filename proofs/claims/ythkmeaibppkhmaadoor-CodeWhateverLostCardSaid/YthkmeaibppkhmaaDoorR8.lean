/- Contracts: the line of a frame, as the reference has it. -/
import Derived.Test.YthkmeaibppkhmaaDoorR5
import Derived.Test.YthkmeaibppkhmaaDoorR7
import Derived.Test.YthkmeaibppkhmaaDoorOrdM
import Derived.Test.YthkmeaibppkhmaaDoorMG
namespace Go.Proofs.YthkmeaibppkhmaaDoor
open Go.RowKit
set_option maxRecDepth 100000



theorem gle_turn {M : Int} {g : Int × Int} {t : Nat} (ht : t < 4) (h : gle M g) : gle M (gmul (turnG t) g) := by
  obtain ⟨a, b⟩ := g
  obtain ⟨h1, h2, h3, h4⟩ := h
  dsimp only at h1 h2 h3 h4
  have e : t = 0 ∨ t = 1 ∨ t = 2 ∨ t = 3 := by omega
  rcases e with rfl | rfl | rfl | rfl <;> (simp only [gle, gmul, turnG, tabL]; simp; omega)

theorem compS_bd (us : List Bool) (samples wave : List (Int × Int)) (lag : Nat) (hb : ∀ g ∈ samples, gle 2000000 g) (hw : ∀ g ∈ wave, ∃ t, t < 4 ∧ g = turnG t) : ∀ i, i ≤ wave.length → lag + wave.length ≤ samples.length → gle (i * 2000000) (compS us samples wave lag i) := by
  intro i
  induction i with
  | zero => intro _ _; simp [compS, gle]
  | succ i ih =>
    intro hi hl
    have h0 := ih (by omega) hl
    have e : ((i + 1 : Nat) : Int) * 2000000 = (i : Int) * 2000000 + 2000000 := by rw [Int.natCast_succ, Int.add_mul, Int.one_mul]
    rw [e]
    simp only [compS]
    split
    · obtain ⟨t, ht, hg⟩ := hw (wave.getD i (0, 0)) (by rw [List.getD, List.getElem?_eq_getElem (show i < wave.length by omega)]; exact List.getElem_mem _)
      obtain ⟨j, hj, hc⟩ := conj_turn ht
      have h1 := hb (samples.getD (lag + i) (0, 0)) (by rw [List.getD, List.getElem?_eq_getElem (show lag + i < samples.length by omega)]; exact List.getElem_mem _)
      rw [hg, hc]
      have h2 := gle_turn hj h1
      simp only [gle, gadd] at h0 h2 ⊢
      omega
    · simp only [gle] at h0 ⊢
      omega

/-- What holds while a line is made: box q holds Vb, Mb; rows Vr, Mr are the call's own; block g holds a number that is summed. -/
structure LI (w W : World) (p r q g : Nat) (F : List Value) (x y : Int) (Vb Mb Vr Mr : Value) (n m : Nat) (lv lm : List Value) : Prop where
  bel : Below w.heap.size w W
  pq : w.heap.size ≤ q ∧ p < q ∧ r < q ∧ q < g
  fr : Blk W p 81 F
  re : Blk W r 89 [.slice none 0 0, .slice none 0 0]
  ou : Blk W q 89 [Vb, Mb]
  su : Blk W g 76 [.int .i64 x, .int .i64 y]
  va : W.ownsRow (q + 1) 76 2 Vr n lv
  mi : W.ownsRow (q + 1) 3 1 Mr m lm
  vg : ∀ k, Vr.ownBlock = some k → k ≠ g

section
variable {w W W' : World} {p r q g : Nat} {F : List Value} {x y : Int} {Vb Mb Vr Mr V' M' : Value} {n m n' m' : Nat} {lv lm lv' lm' : List Value}
theorem Blk.kept {e : TypeId} {cs : List Value} {row : Option Nat} (h : Blk W g e cs) (hg : W.grownBy W' row) (hne : some g ≠ row) : Blk W' g e cs := (hg.block g h.lt hne).trans h
theorem own_ne {e t : TypeId} {size base : Nat} {cs : List Value} {v : Value} {xs : List Value} (h : W.ownsRow base e size v n xs) (hg : Blk W g t cs) (hne : e ≠ t) : some g ≠ v.ownBlock := by
  rcases h.2 with ⟨rfl, _⟩ | ⟨g', cap, cur, rfl, _, hh, _⟩
  · simp [Value.ownBlock]
  · intro he
    have : g' = g := by simpa [Value.ownBlock] using he.symm
    subst this
    unfold Blk at hg
    rw [hh] at hg
    injection hg with hg
    injection hg with _ ht
    exact hne ht
theorem LI.below (h : LI w W p r q g F x y Vb Mb Vr Mr n m lv lm) (hb : Below W.heap.size W W') : LI w W' p r q g F x y Vb Mb Vr Mr n m lv lm :=
  ⟨tr h.bel hb h.bel.size, h.pq, h.fr.bel hb, h.re.bel hb, h.ou.bel hb, h.su.bel hb, ownsRow_bel h.va hb, ownsRow_bel h.mi hb, h.vg⟩
theorem LI.appV (h : LI w W p r q g F x y Vb Mb Vr Mr n m lv lm) (ho : W'.ownsRow (q + 1) 76 2 V' n' lv') (hg : W.grownBy W' Vr.ownBlock) (hat : ∀ k, V'.ownBlock = some k → Vr.ownBlock = some k ∨ W.heap.size ≤ k) : LI w W' p r q g F x y Vb Mb V' Mr n' m lv' lm := by
  obtain ⟨h1, h2, h3, h4⟩ := h.pq
  have hr : ∀ k, Vr.ownBlock = some k → q + 1 ≤ k := fun k hk => (h.va.lt k hk).1
  have ne : ∀ b, b ≤ q → some b ≠ Vr.ownBlock := fun b hb e => by have := hr b e.symm; omega
  refine ⟨h.bel.grown hg h.bel.size (fun k hk => by have := hr k hk; omega), h.pq, h.fr.kept hg (ne _ (by omega)), h.re.kept hg (ne _ (by omega)), h.ou.kept hg (ne _ (by omega)), h.su.kept hg (fun e => h.vg _ e.symm rfl), ho, h.mi.kept hg ?_, fun k hk => ?_⟩
  · rcases h.va.2 with ⟨rfl, _⟩ | ⟨gv, _, cur, rfl, _, hh, _⟩
    · cases hm : Mr.ownBlock with
      | none => exact .inl rfl
      | some b => exact .inr (by simp [Value.ownBlock])
    · exact .inr (Ne.symm (own_ne (g := gv) (t := 76) (cs := cur.toList) h.mi (by unfold Blk; rw [hh]) (by decide)))
  · rcases hat k hk with e | e
    · exact h.vg k e
    · have := h.su.lt; omega
theorem LI.appM (h : LI w W p r q g F x y Vb Mb Vr Mr n m lv lm) (ho : W'.ownsRow (q + 1) 3 1 M' m' lm') (hg : W.grownBy W' Mr.ownBlock) : LI w W' p r q g F x y Vb Mb Vr M' n m' lv lm' := by
  obtain ⟨h1, h2, h3, h4⟩ := h.pq
  have hr : ∀ k, Mr.ownBlock = some k → q + 1 ≤ k := fun k hk => (h.mi.lt k hk).1
  have ne : ∀ b, b ≤ q → some b ≠ Mr.ownBlock := fun b hb e => by have := hr b e.symm; omega
  refine ⟨h.bel.grown hg h.bel.size (fun k hk => by have := hr k hk; omega), h.pq, h.fr.kept hg (ne _ (by omega)), h.re.kept hg (ne _ (by omega)), h.ou.kept hg (ne _ (by omega)), h.su.kept hg (own_ne h.mi h.su (by decide)), h.va.kept hg ?_, ho, h.vg⟩
  rcases h.mi.2 with ⟨rfl, _⟩ | ⟨gv, _, cur, rfl, _, hh, _⟩
  · cases hm : Vr.ownBlock with
    | none => exact .inl rfl
    | some b => exact .inr (by simp [Value.ownBlock])
  · exact .inr (Ne.symm (own_ne (g := gv) (t := 3) (cs := cur.toList) h.va (by unfold Blk; rw [hh]) (by decide)))
theorem LI.cells (h : LI w W p r q g F x y Vb Mb Vr Mr n m lv lm) : W.cell? ⟨q, 0, none⟩ = some Vb ∧ W.cell? ⟨q, 1, none⟩ = some Mb ∧ W.cell? ⟨g, 0, none⟩ = some (.int .i64 x) ∧ W.cell? ⟨g, 1, none⟩ = some (.int .i64 y) :=
  ⟨h.ou.cell 0, h.ou.cell 1, h.su.cell 0, h.su.cell 1⟩
theorem LI.store (h : LI w W p r q g F x y Vb Mb Vr Mr n m lv lm) : LI w ((W.setCell ⟨q, 0, none⟩ Vr).setCell ⟨q, 1, none⟩ Mr) p r q g F x y Vr Mr Vr Mr n m lv lm := by
  obtain ⟨h1, h2, h3, h4⟩ := h.pq
  have k1 : ∀ (W : World) (i : Nat) (u : Value), W.grownBy (W.setCell ⟨q, i, none⟩ u) (some q) := fun W i u => ⟨rfl, rfl, rfl, by simp [World.setCell], fun b _ hne => Below.heap_setCell W ⟨q, i, none⟩ u b (fun e => hne (by rw [e]))⟩
  refine ⟨(h.bel.setCell (p := ⟨q, 0, none⟩) h1 _).setCell (p := ⟨q, 1, none⟩) h1 _, h.pq, (h.fr.far (p := ⟨q, 0, none⟩) (by show p ≠ q; omega) _).far (p := ⟨q, 1, none⟩) (by show p ≠ q; omega) _, (h.re.far (p := ⟨q, 0, none⟩) (by show r ≠ q; omega) _).far (p := ⟨q, 1, none⟩) (by show r ≠ q; omega) _,
    (h.ou.set_ 0 Vr).set_ 1 Mr, (h.su.far (p := ⟨q, 0, none⟩) (by show g ≠ q; omega) _).far (p := ⟨q, 1, none⟩) (by show g ≠ q; omega) _, ?_, ?_, h.vg⟩
  · have nq : Vr.ownBlock ≠ some q := fun e => by have := (h.va.lt q e).1; omega
    exact (h.va.kept (k1 W 0 Vr) (.inr nq)).kept (k1 _ 1 Mr) (.inr nq)
  · have nq : Mr.ownBlock ≠ some q := fun e => by have := (h.mi.lt q e).1; omega
    exact (h.mi.kept (k1 W 0 Vr) (.inr nq)).kept (k1 _ 1 Mr) (.inr nq)
theorem LI.drew (h : LI w W p r q g F x y Vb Mb Vr Mr n m lv lm) : LI w W.drew p r q g F x y Vb Mb Vr Mr n m lv lm := h.below ((Below.refl _ _).drew)
theorem LI.alloc (h : LI w W p r q g F x y Vb Mb Vr Mr n m lv lm) (o : Obj) : LI w (W.alloc o) p r q g F x y Vb Mb Vr Mr n m lv lm := h.below (alloc_bel _ _)
end

theorem own_shape {W : World} {base : Nat} {e : TypeId} {size n : Nat} {v : Value} {xs : List Value} (h : W.ownsRow base e size v n xs) : ∃ A c, v = .slice A n c := by
  rcases h.2 with ⟨h1, h2⟩ | ⟨g, cap, _, h1, _⟩
  · exact ⟨none, 0, by rw [h1, h2]⟩
  · exact ⟨_, _, h1⟩

theorem ownsRow_below {W W' : World} {base : Nat} {e : TypeId} {size n : Nat} {v : Value} {xs : List Value} {g : Nat} (h : W.ownsRow base e size v n xs) (hb : Below g W W') (hlt : ∀ k, v.ownBlock = some k → k < g) : W'.ownsRow base e size v n xs := by
  refine ⟨h.1, ?_⟩
  rcases h.2 with hn | ⟨g', cap, cur, rfl, hb', hg', rest⟩
  · exact .inl hn
  · exact .inr ⟨g', cap, cur, rfl, hb', (hb.block g' (hlt g' rfl)).trans hg', rest⟩

set_option maxHeartbeats 4000000 in
theorem refCompressed_c (gain limit : Int) (A G B : Option Addr) (cA c cB : Nat) (samples wave : List (Int × Int)) (gaps : List Int) (w : World) (hs : Rd w A (gs samples)) (hr : Rd w G (ints gaps)) (hv : Rd w B (gs wave)) (hn : samples.length ≤ 1000) (hg : gaps.length ≤ 1000)
    (hb : ∀ g ∈ samples, gle 2000000 g) (hw : ∀ g ∈ wave, ∃ t, t < 4 ∧ g = turnG t) (hl : wave.length ≤ samples.length) (hl1 : 1 ≤ wave.length) :
    Calls Tryd.prog 65 #[.agg #[.int .i64 gain, .int .i64 limit, .slice A samples.length cA, .slice G gaps.length c], .slice B wave.length cB] w fun r w' =>
      (∃ (V M : Option Addr) (cV cM : Nat), r = .returned (.agg #[.slice V (samples.length - wave.length + 1) cV, .slice M (samples.length - wave.length + 1) cM]) ∧
        RdT w' 76 V (gs (compV (usableL limit samples gaps) samples wave (samples.length - wave.length + 1))) ∧ RdT w' 3 M (ints (compMs (usableL limit samples gaps) wave (samples.length - wave.length + 1)))) ∧ Below w.heap.size w w' := by
  obtain ⟨i0, hi0, iz0, iz1, iz2⟩ := info_parts Tryd.info3
  obtain ⟨j0, hj0, jz0, jz1, jz2⟩ := info_parts Tryd.info76
  have HU := hide (fun (i : Nat) (h : i < samples.length) W (h1 : Rd W A (gs samples)) (h2 : Rd W G (ints gaps)) => refUsable_c gain limit A G cA c samples gaps i W h1 h2 hg h (fun g hg => by have := hb g hg; simp only [gle] at this; omega))
  have hF := Blk.new w 81 [.int .i64 gain, .int .i64 limit, .slice A samples.length cA, .slice G gaps.length c]
  have hR := Blk.new2 w 81 89 [.int .i64 gain, .int .i64 limit, .slice A samples.length cA, .slice G gaps.length c] [.slice none 0 0, .slice none 0 0]
  have hO := Blk.new3 w 81 89 89 [.int .i64 gain, .int .i64 limit, .slice A samples.length cA, .slice G gaps.length c] [.slice none 0 0, .slice none 0 0] [.slice none 0 0, .slice none 0 0]
  have hul : (usableL limit samples gaps).length = samples.length := by simp [usableL]
  have hug : ∀ k, k < samples.length → (usableL limit samples gaps).getD k false = usableB limit samples gaps k := fun k hk => by simp [usableL, List.getD, hk]
  have HBD := hide (fun lag i h1 h2 => compS_bd (usableL limit samples gaps) samples wave lag hb hw i h1 h2)
  have HWV := hide hw
  have HSV := hide hb
  have HUG := hide hug
  clear hb hw hug
  generalize usableL limit samples gaps = us at hul HUG HBD ⊢
  obtain ⟨N, hN⟩ : ∃ N, samples.length - wave.length + 1 = N := ⟨_, rfl⟩
  rw [hN]
  go_enter Tryd.func65, Tryd.ntmps65
  go_wp2
  obtain ⟨V, hV⟩ : ∃ V, ((w.alloc (.cells #[.int .i64 gain, .int .i64 limit, .slice A samples.length cA, .slice G gaps.length c] 81)).alloc (.cells #[.slice none 0 0, .slice none 0 0] 89)).alloc (.cells #[.slice none 0 0, .slice none 0 0] 89) = V := ⟨_, rfl⟩
  have hwV : Below w.heap.size w V := by rw [← hV]; exact ((alloc_bel _ _).alloc (by simp) _).alloc (by simp; omega) _
  have hFV : Blk V w.heap.size 81 [.int .i64 gain, .int .i64 limit, .slice A samples.length cA, .slice G gaps.length c] := by rw [← hV]; exact (hF.bel (alloc_bel _ _)).bel (alloc_bel _ _)
  have hRV : Blk V (w.heap.size + 1) 89 [.slice none 0 0, .slice none 0 0] := by rw [← hV]; exact hR.bel (alloc_bel _ _)
  have hOV : Blk V (w.heap.size + 1 + 1) 89 [.slice none 0 0, .slice none 0 0] := by rw [← hV]; exact hO
  have hzV : V.heap.size = w.heap.size + 3 := by rw [← hV]; simp
  rw [hV]
  clear hV hF hR hO
  obtain ⟨r, hr1⟩ : ∃ r, w.heap.size + 1 = r := ⟨_, rfl⟩
  obtain ⟨q, hq1⟩ : ∃ q, r + 1 = q := ⟨_, rfl⟩
  rw [hr1] at hRV hOV ⊢
  rw [hq1] at hOV ⊢
  have hpr : w.heap.size < r := by omega
  have hrq : r < q := by omega
  have hqV : q < V.heap.size := hOV.lt
  have hzq : V.heap.size = q + 1 := by omega
  clear hr1 hq1 hzV
  go_loopw [6] (fun t wr => ∃ (k : Nat) (Vv Mv : Value), k ≤ N ∧ t = .int .i64 k ∧ Below w.heap.size w wr ∧ Blk wr w.heap.size 81 [.int .i64 gain, .int .i64 limit, .slice A samples.length cA, .slice G gaps.length c] ∧ Blk wr r 89 [.slice none 0 0, .slice none 0 0] ∧ Blk wr q 89 [Vv, Mv] ∧
      wr.ownsRow (q + 1) 76 2 Vv k (gs (compV us samples wave k)) ∧ wr.ownsRow (q + 1) 3 1 Mv k (ints (compMs us wave k))) (fun t _ => N - (intOf t).toNat)
  case atStart => exact ⟨0, _, _, Nat.zero_le _, rfl, hwV, hFV, hRV, hOV, World.ownsRow_nil _ _ _ _, World.ownsRow_nil _ _ _ _⟩
  case round =>
    obtain ⟨k, Vv, Mv, hk, rfl, hwr, hFr, hRr, hOr, hVo, hMo⟩ := hrel
    have c0 := hFr.cell 0; have c1 := hFr.cell 1; have c2 := hFr.cell 2; have c3 := hFr.cell 3; simp only [List.getElem?_cons_zero, List.getElem?_cons_succ] at c0 c1 c2 c3
    by_cases hlt : k < N
    · have hkl : k + wave.length ≤ samples.length := by omega
      have d1 : decide ((k : Int) + (wave.length : Int) ≤ (samples.length : Int)) = true := by simp; omega
      have d2 : decide (k + wave.length ≤ samples.length) = true := by simp; omega
      go_wp2
      clear d1 d2
      obtain ⟨W, hW⟩ : ∃ W, wr.alloc (.cells #[.int .i64 0, .int .i64 0] 76) = W := ⟨_, rfl⟩
      have hrW : Below wr.heap.size wr W := by rw [← hW]; exact alloc_bel _ _
      have hSW : Blk W wr.heap.size 76 [.int .i64 0, .int .i64 0] := by rw [← hW]; exact Blk.new wr _ [_, _]
      rw [hW]
      clear hW
      obtain ⟨g, hg0⟩ : ∃ g, wr.heap.size = g := ⟨_, rfl⟩
      have hFg : w.heap.size < g := by have := hFr.lt; omega
      have hqg : q < g := by have := hOr.lt; omega
      have hVlt := hVo.lt
      have hMlt := hMo.lt
      have hFW := hFr.bel hrW
      have hRW := hRr.bel hrW
      have hOW := hOr.bel hrW
      have hVW := ownsRow_bel hVo hrW
      have hMW := ownsRow_bel hMo hrW
      have hwW := tr hwr hrW hwr.size
      rw [hg0] at hSW hVlt hMlt ⊢
      have hgW := hSW.lt
      clear hFr hRr hOr hVo hMo hrW c0 c1 c2 c3 hwr hg0
      obtain ⟨wo, rfl⟩ : ∃ wo : World, wo = W := ⟨_, rfl⟩
      go_loopw [8, 9] (fun mm t wq => ∃ (i : Nat) (x y : Int), i ≤ wave.length ∧ t = .int .i64 i ∧ mm = .int .i64 (compM us k i) ∧ (x, y) = compS us samples wave k i ∧ Below g wo wq ∧ wo.heap.size ≤ wq.heap.size ∧ Blk wq g 76 [.int .i64 x, .int .i64 y]) (fun _ t _ => wave.length - (intOf t).toNat)
      case atStart => exact ⟨0, 0, 0, Nat.zero_le _, rfl, rfl, rfl, Below.refl _ _, Nat.le_refl _, hSW⟩
      case round =>
        obtain ⟨i, x, y, hi, rfl, rfl, hxy, hbq, hzq', hSq⟩ := hrel
        have hFq := hFW.below hbq hFg
        have hwq : Below w.heap.size w wr := hwW.trans (hbq.mono (by omega))
        have hgq := hSq.lt
        have c0 := hFq.cell 0; have c1 := hFq.cell 1; have c2 := hFq.cell 2; have c3 := hFq.cell 3; simp only [List.getElem?_cons_zero, List.getElem?_cons_succ] at c0 c1 c2 c3
        by_cases hil : i < wave.length
        · have hwu : Below wo.heap.size wo wo := Below.refl _ _
          have HUk := hide (HU.out (i + k) (by omega) wr (hs.bel hwq) (hr.bel hwq))
          have eU : usableB limit samples gaps (i + k) = us.getD (k + i) false := by rw [HUG.out (k + i) (by omega), Nat.add_comm]
          rw [eU, Int.natCast_add] at HUk
          clear eU hwu
          have hcm := compM_le us k i
          cases hbu : us.getD (k + i) false
          · have HM : Hid (compM us k (i + 1) = compM us k i + 1) := compM_miss hbu
            have HSs : Hid ((x, y) = compS us samples wave k (i + 1)) := by show _ = _; rw [compS_miss hbu]; exact hxy
            rw [hbu] at HUk
            clear hbu hxy
            generalize compM us k i = mk at HM hcm
            go_wp2_with (first | (go_at_call 79; refine HUk.out.mono ?_; rintro e w6 ⟨rfl, hb6⟩))
            go_roundw
            case rel => exact ⟨i + 1, x, y, by omega, by go_num, by rw [HM.out]; go_num, HSs.out, hbq.trans (hb6.mono (by omega)), by have := hb6.size; omega, hSq.bel hb6⟩
            case measure => simp [intOf]; omega
          · have HM : Hid (compM us k (i + 1) = compM us k i) := compM_hit hbu
            have HSs : Hid (compS us samples wave k (i + 1) = gadd (x, y) (gmul (gconj wave[i]) samples[k + i])) := by
              show _ = _
              rw [compS_hit hbu, ← hxy]
              simp only [List.getD, List.getElem?_eq_getElem hil, List.getElem?_eq_getElem (show k + i < samples.length by omega), Option.getD_some]
            have hbd := HBD.out k i (by omega) hkl
            rw [← hxy] at hbd
            rw [hbu] at HUk
            clear hbu hxy
            obtain ⟨t, ht, hgt⟩ := HWV.out _ (List.getElem_mem hil)
            obtain ⟨j, hj, hcj⟩ := conj_turn ht
            have hsm := HSV.out _ (List.getElem_mem (show k + i < samples.length by omega))
            have htm := gle_turn hj hsm
            have hjm : Mid (turnG j) := by
              have e : j = 0 ∨ j = 1 ∨ j = 2 ∨ j = 3 := by omega
              rcases e with rfl | rfl | rfl | rfl <;> (unfold Mid; decide)
            rw [hgt, hcj] at HSs
            obtain ⟨bA, oA, rfl, hbA, s0, s1⟩ := (hs.bel hwq).g_at (show k + i < samples.length by omega)
            obtain ⟨bB, oB, rfl, hbB, v0, v1⟩ := (hv.bel hwq).g_at hil
            rw [hgt] at v0 v1
            have hga : -1 ≤ (turnG t).2 ∧ (turnG t).2 ≤ 1 := by
              have e : t = 0 ∨ t = 1 ∨ t = 2 ∨ t = 3 := by omega
              rcases e with rfl | rfl | rfl | rfl <;> decide
            clear hgt ht hj
            generalize samples[k + i] = smp at s0 s1 HSs hsm htm
            generalize turnG t = gt at v0 v1 hcj hga
            generalize turnG j = gj at HSs htm hcj hjm
            subst hcj
            obtain ⟨sa, sb⟩ := smp
            obtain ⟨ga, gb⟩ := gt
            dsimp only at s0 s1 v0 v1 hga
            have HG1 := hide (fun W => gconj_c (ga, gb) W (by dsimp only; omega) (by dsimp only; omega))
            have HG2 := hide (fun W => gmul_c (gconj (ga, gb)) (sa, sb) W hjm (by obtain ⟨e1, e2, e3, e4⟩ := hsm; unfold Mid; dsimp only at *; omega))
            have hi1000 : (i : Int) * 2000000 ≤ 1000 * 2000000 := by omega
            have HG3 := hide (fun W => gadd_c (x, y) (gmul (gconj (ga, gb)) (sa, sb)) W (by obtain ⟨e1, e2, e3, e4⟩ := hbd; dsimp only at *; omega) (by obtain ⟨e1, e2, e3, e4⟩ := htm; omega))
            generalize gadd (x, y) (gmul (gconj (ga, gb)) (sa, sb)) = new at HG3 HSs
            generalize gmul (gconj (ga, gb)) (sa, sb) = pr at HG2 HG3
            obtain ⟨nx, ny⟩ := new
            obtain ⟨px, py⟩ := pr
            dsimp only [gconj] at HG1 HG2 HG3
            generalize compM us k i = mk at HM hcm
            clear hsm htm hjm hga hbd
            have b0 := hSq.cell 0
            have b1 := hSq.cell 1
            simp only [List.getElem?_cons_zero, List.getElem?_cons_succ] at b0 b1
            go_upto_region 10 with (first | (go_at_call 79; refine HUk.out.mono ?_; rintro e w6 ⟨rfl, hb6⟩))
            have hS6 := hSq.bel hb6
            have HS := hide (show w6.cell? ⟨g, 0, none⟩ = some (.int .i64 x) ∧ w6.cell? ⟨g, 1, none⟩ = some (.int .i64 y) ∧ w6.cell? ⟨bB, oB + i * 2, none⟩ = some (.int .i64 ga) ∧ w6.cell? ⟨bB, oB + i * 2 + 1, none⟩ = some (.int .i64 gb) ∧ w6.cell? ⟨w.heap.size, 2, none⟩ = some (.slice (some ⟨bA, oA, none⟩) samples.length cA) ∧
                w6.cell? ⟨bA, oA + (k + i) * 2, none⟩ = some (.int .i64 sa) ∧ w6.cell? ⟨bA, oA + (k + i) * 2 + 1, none⟩ = some (.int .i64 sb) ∧ Below w6.heap.size w6 w6
              from ⟨(hb6.cell (p := ⟨g, 0, none⟩) hgq).trans b0, (hb6.cell (p := ⟨g, 1, none⟩) hgq).trans b1, (hb6.cell (p := ⟨bB, _, none⟩) hbB).trans v0, (hb6.cell (p := ⟨bB, _, none⟩) hbB).trans v1, (hb6.cell (p := ⟨w.heap.size, 2, none⟩) (by show w.heap.size < wr.heap.size; omega)).trans c2, (hb6.cell (p := ⟨bA, _, none⟩) hbA).trans s0, (hb6.cell (p := ⟨bA, _, none⟩) hbA).trans s1, Below.refl _ _⟩)
            clear b0 b1 v0 v1 s0 s1 c0 c1 c2 c3
            have ix0 : (0 : Int) ≤ (i : Int) := by omega
            have ix1 : (i : Int) < (wave.length : Int) := by omega
            have ix2 : (0 : Int) ≤ (i : Int) + (k : Int) := by omega
            have ix3 : (i : Int) + (k : Int) < (samples.length : Int) := by omega
            have ix4 : ((i : Int) + (k : Int)).toNat = k + i := by omega
            have ix5 : IntKind.i64.wrap ((i : Int) + (k : Int)) = (i : Int) + (k : Int) := by simp (disch := omega) only [IntWalk.i64_in]
            refine wp_region_M (fun w' => w'.cell? ⟨g, 0, none⟩ = some (.int .i64 x) ∧ w'.cell? ⟨g, 1, none⟩ = some (.int .i64 y) ∧ w'.cell? ⟨bB, oB + i * 2, none⟩ = some (.int .i64 ga) ∧ w'.cell? ⟨bB, oB + i * 2 + 1, none⟩ = some (.int .i64 gb) ∧ w'.cell? ⟨w.heap.size, 2, none⟩ = some (.slice (some ⟨bA, oA, none⟩) samples.length cA) ∧
                w'.cell? ⟨bA, oA + (k + i) * 2, none⟩ = some (.int .i64 sa) ∧ w'.cell? ⟨bA, oA + (k + i) * 2 + 1, none⟩ = some (.int .i64 sb) ∧ Below w6.heap.size w6 w') 15 (by kernel_rfl) ?_
            have hSd := hd7_drew HS.out
            refine AnyM.take (i := 0) (v := ?_) rfl (by kernel_rfl) (by kernel_rfl) (by kernel_rfl) (by kernel_rfl) (fun _ _ _ h => h) (Or.inl ⟨by rfl, ?_⟩) (by assumption) ?_
            rotate_left 1
            · (intro w hSw; (try dsimp only at hSw); go_simp <;> with_reducible rfl)
            try simp only [Act.put]
            refine AnyM.take (i := 1) (v := ?_) rfl (by kernel_rfl) (by kernel_rfl) (by kernel_rfl) (by kernel_rfl) (fun _ _ _ h => h) (Or.inl ⟨by rfl, ?_⟩) (by assumption) ?_
            rotate_left 1
            · (intro w hSw; (try dsimp only at hSw); go_simp <;> with_reducible rfl)
            try simp only [Act.put]
            refine AnyM.take (i := 2) (v := ?_) rfl (by kernel_rfl) (by kernel_rfl) (by kernel_rfl) (by kernel_rfl) (fun _ _ _ h => h) (Or.inl ⟨by rfl, ?_⟩) (by assumption) ?_
            rotate_left 1
            · (intro w hSw; (try dsimp only at hSw); go_simp <;> with_reducible rfl)
            try simp only [Act.put]
            refine AnyM.take (i := 3) (v := ?_) rfl (by kernel_rfl) (by kernel_rfl) (by kernel_rfl) (by kernel_rfl) (fun _ _ _ h => h) (Or.inl ⟨by rfl, ?_⟩) (by assumption) ?_
            rotate_left 1
            · (intro w hSw; (try dsimp only at hSw); go_simp <;> with_reducible rfl)
            try simp only [Act.put]
            refine AnyM.take (i := 4) (v := ?_) rfl (by kernel_rfl) (by kernel_rfl) (by kernel_rfl) (by kernel_rfl) (fun _ _ _ h => h) (Or.inl ⟨by rfl, ?_⟩) (by assumption) ?_
            rotate_left 1
            · (intro w hSw; (try dsimp only at hSw); go_simp <;> with_reducible rfl)
            try simp only [Act.put]
            refine AnyM.take (i := 6) (v := ?_) rfl (by kernel_rfl) (by kernel_rfl) (by kernel_rfl) (by kernel_rfl) (fun _ _ _ h => h) (Or.inl ⟨by rfl, ?_⟩) (by assumption) ?_
            rotate_left 1
            · (intro w hSw; (try dsimp only at hSw); go_simp <;> with_reducible rfl)
            try simp only [Act.put]
            refine AnyM.take (i := 7) (v := ?_) rfl (by kernel_rfl) (by kernel_rfl) (by kernel_rfl) (by kernel_rfl) (fun _ _ _ h => h) (Or.inl ⟨by rfl, ?_⟩) (by assumption) ?_
            rotate_left 1
            · (intro w hSw; (try dsimp only at hSw); go_simp <;> with_reducible rfl)
            try simp only [Act.put]
            refine AnyM.take (i := 8) (v := ?_) rfl (by kernel_rfl) (by kernel_rfl) (by kernel_rfl) (by kernel_rfl) (fun _ _ _ h => h) (Or.inl ⟨by rfl, ?_⟩) (by assumption) ?_
            rotate_left 1
            · (intro w hSw; (try dsimp only at hSw); go_simp <;> with_reducible rfl)
            try simp only [Act.put]
            refine AnyM.take (i := 9) (v := ?_) rfl (by kernel_rfl) (by kernel_rfl) (by kernel_rfl) (by kernel_rfl) (fun _ _ _ h => h) (Or.inl ⟨by rfl, ?_⟩) (by assumption) ?_
            rotate_left 1
            · (intro w hSw; (try dsimp only at hSw); go_simp <;> with_reducible rfl)
            try simp only [Act.put]
            refine AnyM.take (i := 10) (v := ?_) rfl (by kernel_rfl) (by kernel_rfl) (by kernel_rfl) (by kernel_rfl) (fun _ _ _ h => h) (Or.inl ⟨by rfl, ?_⟩) (by assumption) ?_
            rotate_left 1
            · (intro w hSw; (try dsimp only at hSw); go_simp <;> with_reducible rfl)
            try simp only [Act.put]
            refine AnyM.take (i := 11) (v := ?_) rfl (by kernel_rfl) (by kernel_rfl) (by kernel_rfl) (by kernel_rfl) (fun _ _ _ h => h) (Or.inl ⟨by rfl, ?_⟩) (by assumption) ?_
            rotate_left 1
            · (intro w hSw; (try dsimp only at hSw); go_simp <;> with_reducible rfl)
            try simp only [Act.put]
            refine AnyM.take (i := 12) (v := ?_) rfl (by kernel_rfl) (by kernel_rfl) (by kernel_rfl) (by kernel_rfl) (fun _ _ _ h => h) (Or.inl ⟨by rfl, ?_⟩) (by assumption) ?_
            rotate_left 1
            · (intro w hSw; (try dsimp only at hSw); go_simp <;> with_reducible rfl)
            try simp only [Act.put]
            refine AnyM.next [5] (by kernel_rfl) (by simp) ?_
            refine NextM.cons rfl (fun K hK => ?_) NextM.nil
            go_simp
            refine (HG1.out _).mono ?_
            rintro e w7 ⟨rfl, hb7⟩
            have hS7 := hd7_bel hSd hb7 (by simp)
            have hG7 : Blk w7 g 76 [.int .i64 x, .int .i64 y] := (hS6.drewN 1).bel hb7
            try dsimp only
            refine hK.out _ _ (fun _ => hS7) ?_
            clear hK K
            try simp only [Act.put]
            refine AnyM.next [13] (by kernel_rfl) (by simp) ?_
            refine NextM.cons rfl (fun K hK => ?_) NextM.nil
            go_simp
            refine (HG2.out _).mono ?_
            rintro e w8 ⟨rfl, hb8⟩
            have hS8 := hd7_bel hS7 hb8 hS7.2.2.2.2.2.2.2.size
            have hG8 := hG7.bel hb8
            try dsimp only
            refine hK.out _ _ (fun _ => hS8) ?_
            clear hK K
            try simp only [Act.put]
            refine AnyM.next [14] (by kernel_rfl) (by simp) ?_
            refine NextM.cons rfl (fun K hK => ?_) NextM.nil
            go_simp
            refine (HG3.out _).mono ?_
            rintro e w9 ⟨rfl, hb9⟩
            have hS9 := hd7_bel hS8 hb9 hS8.2.2.2.2.2.2.2.size
            have hG9 := hG8.bel hb9
            try dsimp only
            refine hK.out _ _ (fun _ => hS9) ?_
            clear hK K
            try simp only [Act.put]
            refine AnyM.next [15] (by kernel_rfl) (by simp) ?_
            refine NextM.cons rfl (fun K hK => ?_) NextM.nil
            have y0 := hG9.cell 0; have y1 := hG9.cell 1; simp only [List.getElem?_cons_zero, List.getElem?_cons_succ] at y0 y1
            have f0 := hG9.frozen 0
            have f1 := hG9.frozen 1
            go_simp
            refine hK.out _ _ (fun h => by simp at h) ?_
            clear hK K
            try simp only [Act.put]
            refine AnyM.done (by kernel_rfl) ?_ _
            have hGE := (hG9.set_ 0 (.int .i64 nx)).set_ 1 (.int .i64 ny)
            have hbE : Below g wo ((w9.setCell ⟨g, 0, none⟩ (.int .i64 nx)).setCell ⟨g, 1, none⟩ (.int .i64 ny)) :=
              (((hbq.trans (hb6.mono (by omega))).trans (hS9.2.2.2.2.2.2.2.mono (by have := hb6.size; omega))).setCell (p := ⟨g, 0, none⟩) (Nat.le_refl _) _).setCell (p := ⟨g, 1, none⟩) (Nat.le_refl _) _
            have hzE : wo.heap.size ≤ ((w9.setCell ⟨g, 0, none⟩ (.int .i64 nx)).setCell ⟨g, 1, none⟩ (.int .i64 ny)).heap.size := by
              have h1 := hb6.size
              have h2 := hS9.2.2.2.2.2.2.2.size
              simp [World.setCell]
              omega
            generalize (w9.setCell ⟨g, 0, none⟩ (.int .i64 nx)).setCell ⟨g, 1, none⟩ (.int .i64 ny) = WE at hGE hbE hzE ⊢
            clear hS7 hS8 hS9 hG7 hG8 hG9 hSd HS f0 f1 y0 y1 hb7 hb8 hb9
            go_wp2
            go_roundw
            case rel => exact ⟨i + 1, nx, ny, by omega, by go_num, by rw [HM.out], HSs.out.symm, hbE, hzE, hGE⟩
            case measure => simp [intOf]; omega
        · obtain rfl : i = wave.length := by omega
          have hOq := hOW.below hbq (by omega)
          have hRq := hRW.below hbq (by omega)
          have hLI : LI w wr w.heap.size r q g [.int .i64 gain, .int .i64 limit, .slice A samples.length cA, .slice G gaps.length c] x y Vv Mv Vv Mv k k (gs (compV us samples wave k)) (ints (compMs us wave k)) :=
            ⟨hwq, ⟨by omega, by omega, by omega, hqg⟩, hFq, hRq, hOq, hSq, ownsRow_below hVW hbq (fun b hb => (hVlt b hb).2), ownsRow_below hMW hbq (fun b hb => (hMlt b hb).2), fun b hb => by have := (hVlt b hb).2; omega⟩
          have HCV : Hid (compV us samples wave (k + 1) = compV us samples wave k ++ [(x, y)]) := by show _ = _; rw [hxy]; simp [compV, List.range_succ]
          have HCM : Hid (compMs us wave (k + 1) = compMs us wave k ++ [(compM us k wave.length : Int)]) := by show _ = _; simp [compMs, List.range_succ]
          generalize compM us k wave.length = mk at HCM
          have hsz : hSq.lt = hSq.lt := rfl
          clear hsz hxy HBD hVW hMW hSW hFW hRW hOW hFq hRq hOq hSq c0 c1 c2 c3
          generalize compV us samples wave k = LV at hLI HCV
          generalize compMs us wave k = LM at hLI HCM
          go_upto_region 12 with fail
          refine wp_region_M (fun w' => w'.cell? ⟨q, 0, none⟩ = some Vv ∧ w'.cell? ⟨q, 1, none⟩ = some Mv ∧ w'.cell? ⟨g, 0, none⟩ = some (.int .i64 x) ∧ w'.cell? ⟨g, 1, none⟩ = some (.int .i64 y)) 11 (by kernel_rfl) ?_
          have hL0 := hLI.drew
          have hS0 := hL0.cells
          refine AnyM.take (i := 0) (v := ?_) rfl (by kernel_rfl) (by kernel_rfl) (by kernel_rfl) (by kernel_rfl) (fun _ _ _ h => h) (Or.inl ⟨by rfl, ?_⟩) (by assumption) ?_
          rotate_left 1
          · (intro w hSw; (try dsimp only at hSw); go_simp <;> with_reducible rfl)
          try simp only [Act.put]
          refine AnyM.take (i := 1) (v := ?_) rfl (by kernel_rfl) (by kernel_rfl) (by kernel_rfl) (by kernel_rfl) (fun _ _ _ h => h) (Or.inl ⟨by rfl, ?_⟩) (by assumption) ?_
          rotate_left 1
          · (intro w hSw; (try dsimp only at hSw); go_simp <;> with_reducible rfl)
          try simp only [Act.put]
          refine AnyM.take (i := 2) (v := ?_) rfl (by kernel_rfl) (by kernel_rfl) (by kernel_rfl) (by kernel_rfl) (fun _ _ _ h => h) (Or.inl ⟨by rfl, ?_⟩) (by assumption) ?_
          rotate_left 1
          · (intro w hSw; (try dsimp only at hSw); go_simp <;> with_reducible rfl)
          try simp only [Act.put]
          refine AnyM.take (i := 5) (v := ?_) rfl (by kernel_rfl) (by kernel_rfl) (by kernel_rfl) (by kernel_rfl) (fun _ _ _ h => h) (Or.inl ⟨by rfl, ?_⟩) (by assumption) ?_
          rotate_left 1
          · (intro w hSw; (try dsimp only at hSw); go_simp <;> with_reducible rfl)
          try simp only [Act.put]
          refine AnyM.take (i := 6) (v := ?_) rfl (by kernel_rfl) (by kernel_rfl) (by kernel_rfl) (by kernel_rfl) (fun _ _ _ h => h) (Or.inl ⟨by rfl, ?_⟩) (by assumption) ?_
          rotate_left 1
          · (intro w hSw; (try dsimp only at hSw); go_simp <;> with_reducible rfl)
          try simp only [Act.put]
          refine AnyM.takeAny (i := 7) (v := ?_) rfl (by kernel_rfl) (by kernel_rfl) (by kernel_rfl) (by kernel_rfl) (fun _ _ _ h => h) (Or.inl ⟨by rfl, ?_⟩) (fun h => by first | assumption | exact Bool.noConfusion (h.symm.trans (by kernel_rfl : _ = true))) ?_
          rotate_left 1
          · (intro w _; go_simp <;> with_reducible rfl)
          try simp only [Act.put]
          refine AnyM.next [3, 8] (by kernel_rfl) (by simp) ?_
          refine NextM.cons rfl (fun K hK => ?_) (NextM.cons rfl (fun K hK => ?_) NextM.nil)
          · go_simp
            have h1 := hL0.alloc (.cells #[.int .i64 x, .int .i64 y] 76)
            have bV1 : Blk (wr.drew.alloc (.cells #[.int .i64 x, .int .i64 y] 76)) wr.heap.size 76 [.int .i64 x, .int .i64 y] := Blk.new wr.drew _ [_, _]
            have hS1 := h1.cells
            try dsimp only
            refine hK.out _ _ (fun _ => hS1) ?_
            clear hK K
            try simp only [Act.put]
            refine AnyM.next [4, 8] (by kernel_rfl) (by simp) ?_
            refine NextM.cons rfl (fun K hK => ?_) (NextM.cons rfl (fun K hK => ?_) NextM.nil)
            · skip
              refine step_append_lies _ (by rfl) _ _ _ (by rfl) (q + 1) 76 j0 _ 2 16 Tryd.underlying30 hj0 jz0 jz1 jz2 rfl (by decide) Vv k (gs LV) (by rfl) h1.va ⟨_, 0, none⟩ 1 1 [.int .i64 x, .int .i64 y] (by rfl) rfl (World.news_of_block bV1) (by simp [Value.oneCell']) (by decide) (by unfold maxLen; omega) (by omega) (Nat.succ_le_of_lt h1.ou.lt) _ rfl ?_
              intro gv cv Wv hov hgv hatv hltv
              have h2 := h1.appV hov hgv (fun b hb => by
                have e : gv = b := by simpa [Value.ownBlock] using hb
                subst e
                rcases hatv with e | e
                · exact .inl e
                · exact .inr (by rw [e]; simp))
              have hS2 := h2.cells
              try dsimp only
              refine hK.out _ _ (fun _ => hS2) ?_
              clear hK K
              try simp only [Act.put]
              -- the second element, the second append
              refine AnyM.takeAny (i := 10) (v := ?_) rfl (by kernel_rfl) (by kernel_rfl) (by kernel_rfl) (by kernel_rfl) (fun _ _ _ h => h) (Or.inl ⟨by rfl, ?_⟩) (fun h => by first | assumption | exact Bool.noConfusion (h.symm.trans (by kernel_rfl : _ = true))) ?_
              rotate_left 1
              · (intro w _; go_simp <;> with_reducible rfl)
              try simp only [Act.put]
              refine AnyM.next [8] (by kernel_rfl) (by simp) ?_
              refine NextM.cons rfl (fun K hK => ?_) NextM.nil
              go_simp
              have h3 := h2.alloc (.cells #[.int .i64 (mk : Int)] 3)
              have bM3 : Blk (Wv.alloc (.cells #[.int .i64 (mk : Int)] 3)) Wv.heap.size 3 [.int .i64 (mk : Int)] := Blk.new Wv _ [_]
              have hS3 := h3.cells
              try dsimp only
              refine hK.out _ _ (fun _ => hS3) ?_
              clear hK K
              try simp only [Act.put]
              refine AnyM.next [9] (by kernel_rfl) (by simp) ?_
              refine NextM.cons rfl (fun K hK => ?_) NextM.nil
              refine step_append_lies _ (by rfl) _ _ _ (by rfl) (q + 1) 3 i0 (.int .i64 0) 1 8 Tryd.underlying22 hi0 iz0 iz1 iz2 rfl (by decide) Mv k (ints LM) (by rfl) h3.mi ⟨_, 0, none⟩ 1 1 [.int .i64 (mk : Int)] (by rfl) rfl (World.news_of_block bM3) (by simp [Value.oneCell']) (by decide) (by unfold maxLen; omega) (by omega) (Nat.succ_le_of_lt h3.ou.lt) _ rfl ?_
              intro gm cm Wm hom hgm hatm hltm
              have h4 := h3.appM hom hgm
              have hS4 := h4.cells
              try dsimp only
              refine hK.out _ _ (fun _ => hS4) ?_
              clear hK K
              try simp only [Act.put]
              refine AnyM.next [11] (by kernel_rfl) (by simp) ?_
              refine NextM.cons rfl (fun K hK => ?_) NextM.nil
              have y0 := h4.ou.cell 0
              have y1 := h4.ou.cell 1
              simp only [List.getElem?_cons_zero, List.getElem?_cons_succ] at y0 y1
              have f0 := h4.ou.frozen 0
              have f1 := h4.ou.frozen 1
              go_simp
              refine hK.out _ _ (fun h => by simp at h) ?_
              clear hK K
              try simp only [Act.put]
              refine AnyM.takeAny (i := 12) (v := ?_) rfl (by kernel_rfl) (by kernel_rfl) (by kernel_rfl) (by kernel_rfl) (fun _ _ _ h => h) (Or.inl ⟨by rfl, ?_⟩) (fun h => by first | assumption | exact Bool.noConfusion (h.symm.trans (by kernel_rfl : _ = true))) ?_
              rotate_left 1
              · (intro w _; go_simp <;> with_reducible rfl)
              try simp only [Act.put]
              refine AnyM.next [13] (by kernel_rfl) (by simp) ?_
              refine NextM.cons rfl (fun K hK => ?_) NextM.nil
              go_simp
              refine hK.out _ _ (fun h => by simp at h) ?_
              clear hK K
              try simp only [Act.put]
              refine AnyM.done (by kernel_rfl) ?_ _
              have hE := h4.store
              generalize World.setCell (World.setCell Wm ⟨q, 0, none⟩ _) ⟨q, 1, none⟩ _ = WE at hE ⊢
              have e1 := hE.bel
              have e2 := hE.fr
              have e3 := hE.re
              have e4 := hE.ou
              have e5 := hE.va
              have e6 := hE.mi
              rw [show gs LV ++ [.int .i64 x, .int .i64 y] = gs (LV ++ [(x, y)]) from (gs_append LV [(x, y)]).symm, ← HCV.out] at e5
              rw [show ints LM ++ [.int .i64 (mk : Int)] = ints (LM ++ [(mk : Int)]) from (ints_append LM [(mk : Int)]).symm, ← HCM.out] at e6
              go_wp2
              go_roundw
              case rel => exact ⟨k + 1, _, _, by omega, by go_num, e1, e2, e3, e4, e5, e6⟩
              case measure => simp [intOf]; omega
            · go_simp
              have h2 := h1.alloc (.cells #[.int .i64 (mk : Int)] 3)
              have bM2 : Blk ((wr.drew.alloc (.cells #[.int .i64 x, .int .i64 y] 76)).alloc (.cells #[.int .i64 (mk : Int)] 3)) (wr.heap.size + 1) 3 [.int .i64 (mk : Int)] := by
                have := Blk.new (wr.drew.alloc (.cells #[.int .i64 x, .int .i64 y] 76)) 3 [.int .i64 (mk : Int)]
                simpa using this
              have bV2 := bV1.bel (alloc_bel _ (.cells #[.int .i64 (mk : Int)] 3))
              have hS2 := h2.cells
              try dsimp only
              refine hK.out _ _ (fun _ => hS2) ?_
              clear hK K
              try simp only [Act.put]
              refine AnyM.next [4] (by kernel_rfl) (by simp) ?_
              refine NextM.cons rfl (fun K hK => ?_) NextM.nil
              refine step_append_lies _ (by rfl) _ _ _ (by rfl) (q + 1) 76 j0 _ 2 16 Tryd.underlying30 hj0 jz0 jz1 jz2 rfl (by decide) Vv k (gs LV) (by rfl) h2.va ⟨_, 0, none⟩ 1 1 [.int .i64 x, .int .i64 y] (by rfl) rfl (World.news_of_block bV2) (by simp [Value.oneCell']) (by decide) (by unfold maxLen; omega) (by omega) (Nat.succ_le_of_lt h2.ou.lt) _ rfl ?_
              intro gv cv Wv hov hgv hatv hltv
              have h3 := h2.appV hov hgv (fun b hb => by
                have e : gv = b := by simpa [Value.ownBlock] using hb
                subst e
                rcases hatv with e | e
                · exact .inl e
                · exact .inr (by rw [e]; simp))
              have bM3 := bM2.kept hgv (own_ne h2.va bM2 (by decide))
              have hS3 := h3.cells
              try dsimp only
              refine hK.out _ _ (fun _ => hS3) ?_
              clear hK K
              try simp only [Act.put]
              refine AnyM.takeAny (i := 10) (v := ?_) rfl (by kernel_rfl) (by kernel_rfl) (by kernel_rfl) (by kernel_rfl) (fun _ _ _ h => h) (Or.inl ⟨by rfl, ?_⟩) (fun h => by first | assumption | exact Bool.noConfusion (h.symm.trans (by kernel_rfl : _ = true))) ?_
              rotate_left 1
              · (intro w _; go_simp <;> with_reducible rfl)
              try simp only [Act.put]
              refine AnyM.next [9] (by kernel_rfl) (by simp) ?_
              refine NextM.cons rfl (fun K hK => ?_) NextM.nil
              refine step_append_lies _ (by rfl) _ _ _ (by rfl) (q + 1) 3 i0 (.int .i64 0) 1 8 Tryd.underlying22 hi0 iz0 iz1 iz2 rfl (by decide) Mv k (ints LM) (by rfl) h3.mi ⟨_, 0, none⟩ 1 1 [.int .i64 (mk : Int)] (by rfl) rfl (World.news_of_block bM3) (by simp [Value.oneCell']) (by decide) (by unfold maxLen; omega) (by omega) (Nat.succ_le_of_lt h3.ou.lt) _ rfl ?_
              intro gm cm Wm hom hgm hatm hltm
              have h4 := h3.appM hom hgm
              have hS4 := h4.cells
              try dsimp only
              refine hK.out _ _ (fun _ => hS4) ?_
              clear hK K
              try simp only [Act.put]
              refine AnyM.next [11] (by kernel_rfl) (by simp) ?_
              refine NextM.cons rfl (fun K hK => ?_) NextM.nil
              have y0 := h4.ou.cell 0
              have y1 := h4.ou.cell 1
              simp only [List.getElem?_cons_zero, List.getElem?_cons_succ] at y0 y1
              have f0 := h4.ou.frozen 0
              have f1 := h4.ou.frozen 1
              go_simp
              refine hK.out _ _ (fun h => by simp at h) ?_
              clear hK K
              try simp only [Act.put]
              refine AnyM.takeAny (i := 12) (v := ?_) rfl (by kernel_rfl) (by kernel_rfl) (by kernel_rfl) (by kernel_rfl) (fun _ _ _ h => h) (Or.inl ⟨by rfl, ?_⟩) (fun h => by first | assumption | exact Bool.noConfusion (h.symm.trans (by kernel_rfl : _ = true))) ?_
              rotate_left 1
              · (intro w _; go_simp <;> with_reducible rfl)
              try simp only [Act.put]
              refine AnyM.next [13] (by kernel_rfl) (by simp) ?_
              refine NextM.cons rfl (fun K hK => ?_) NextM.nil
              go_simp
              refine hK.out _ _ (fun h => by simp at h) ?_
              clear hK K
              try simp only [Act.put]
              refine AnyM.done (by kernel_rfl) ?_ _
              have hE := h4.store
              generalize World.setCell (World.setCell Wm ⟨q, 0, none⟩ _) ⟨q, 1, none⟩ _ = WE at hE ⊢
              have e1 := hE.bel
              have e2 := hE.fr
              have e3 := hE.re
              have e4 := hE.ou
              have e5 := hE.va
              have e6 := hE.mi
              rw [show gs LV ++ [.int .i64 x, .int .i64 y] = gs (LV ++ [(x, y)]) from (gs_append LV [(x, y)]).symm, ← HCV.out] at e5
              rw [show ints LM ++ [.int .i64 (mk : Int)] = ints (LM ++ [(mk : Int)]) from (ints_append LM [(mk : Int)]).symm, ← HCM.out] at e6
              go_wp2
              go_roundw
              case rel => exact ⟨k + 1, _, _, by omega, by go_num, e1, e2, e3, e4, e5, e6⟩
              case measure => simp [intOf]; omega
          · go_simp
            have h1 := hL0.alloc (.cells #[.int .i64 (mk : Int)] 3)
            have bM1 : Blk (wr.drew.alloc (.cells #[.int .i64 (mk : Int)] 3)) wr.heap.size 3 [.int .i64 (mk : Int)] := Blk.new wr.drew _ [_]
            have hS1 := h1.cells
            try dsimp only
            refine hK.out _ _ (fun _ => hS1) ?_
            clear hK K
            try simp only [Act.put]
            refine AnyM.next [3] (by kernel_rfl) (by simp) ?_
            refine NextM.cons rfl (fun K hK => ?_) NextM.nil
            go_simp
            have h2 := h1.alloc (.cells #[.int .i64 x, .int .i64 y] 76)
            have bV2 : Blk ((wr.drew.alloc (.cells #[.int .i64 (mk : Int)] 3)).alloc (.cells #[.int .i64 x, .int .i64 y] 76)) (wr.heap.size + 1) 76 [.int .i64 x, .int .i64 y] := by
              have := Blk.new (wr.drew.alloc (.cells #[.int .i64 (mk : Int)] 3)) 76 [.int .i64 x, .int .i64 y]
              simpa using this
            have bM2 := bM1.bel (alloc_bel _ (.cells #[.int .i64 x, .int .i64 y] 76))
            have hS2 := h2.cells
            try dsimp only
            refine hK.out _ _ (fun _ => hS2) ?_
            clear hK K
            try simp only [Act.put]
            refine AnyM.next [4] (by kernel_rfl) (by simp) ?_
            refine NextM.cons rfl (fun K hK => ?_) NextM.nil
            refine step_append_lies _ (by rfl) _ _ _ (by rfl) (q + 1) 76 j0 _ 2 16 Tryd.underlying30 hj0 jz0 jz1 jz2 rfl (by decide) Vv k (gs LV) (by rfl) h2.va ⟨_, 0, none⟩ 1 1 [.int .i64 x, .int .i64 y] (by rfl) rfl (World.news_of_block bV2) (by simp [Value.oneCell']) (by decide) (by unfold maxLen; omega) (by omega) (Nat.succ_le_of_lt h2.ou.lt) _ rfl ?_
            intro gv cv Wv hov hgv hatv hltv
            have h3 := h2.appV hov hgv (fun b hb => by
              have e : gv = b := by simpa [Value.ownBlock] using hb
              subst e
              rcases hatv with e | e
              · exact .inl e
              · exact .inr (by rw [e]; simp))
            have bM3 := bM2.kept hgv (own_ne h2.va bM2 (by decide))
            have hS3 := h3.cells
            try dsimp only
            refine hK.out _ _ (fun _ => hS3) ?_
            clear hK K
            try simp only [Act.put]
            refine AnyM.takeAny (i := 10) (v := ?_) rfl (by kernel_rfl) (by kernel_rfl) (by kernel_rfl) (by kernel_rfl) (fun _ _ _ h => h) (Or.inl ⟨by rfl, ?_⟩) (fun h => by first | assumption | exact Bool.noConfusion (h.symm.trans (by kernel_rfl : _ = true))) ?_
            rotate_left 1
            · (intro w _; go_simp <;> with_reducible rfl)
            try simp only [Act.put]
            refine AnyM.next [9] (by kernel_rfl) (by simp) ?_
            refine NextM.cons rfl (fun K hK => ?_) NextM.nil
            refine step_append_lies _ (by rfl) _ _ _ (by rfl) (q + 1) 3 i0 (.int .i64 0) 1 8 Tryd.underlying22 hi0 iz0 iz1 iz2 rfl (by decide) Mv k (ints LM) (by rfl) h3.mi ⟨_, 0, none⟩ 1 1 [.int .i64 (mk : Int)] (by rfl) rfl (World.news_of_block bM3) (by simp [Value.oneCell']) (by decide) (by unfold maxLen; omega) (by omega) (Nat.succ_le_of_lt h3.ou.lt) _ rfl ?_
            intro gm cm Wm hom hgm hatm hltm
            have h4 := h3.appM hom hgm
            have hS4 := h4.cells
            try dsimp only
            refine hK.out _ _ (fun _ => hS4) ?_
            clear hK K
            try simp only [Act.put]
            refine AnyM.next [11] (by kernel_rfl) (by simp) ?_
            refine NextM.cons rfl (fun K hK => ?_) NextM.nil
            have y0 := h4.ou.cell 0
            have y1 := h4.ou.cell 1
            simp only [List.getElem?_cons_zero, List.getElem?_cons_succ] at y0 y1
            have f0 := h4.ou.frozen 0
            have f1 := h4.ou.frozen 1
            go_simp
            refine hK.out _ _ (fun h => by simp at h) ?_
            clear hK K
            try simp only [Act.put]
            refine AnyM.takeAny (i := 12) (v := ?_) rfl (by kernel_rfl) (by kernel_rfl) (by kernel_rfl) (by kernel_rfl) (fun _ _ _ h => h) (Or.inl ⟨by rfl, ?_⟩) (fun h => by first | assumption | exact Bool.noConfusion (h.symm.trans (by kernel_rfl : _ = true))) ?_
            rotate_left 1
            · (intro w _; go_simp <;> with_reducible rfl)
            try simp only [Act.put]
            refine AnyM.next [13] (by kernel_rfl) (by simp) ?_
            refine NextM.cons rfl (fun K hK => ?_) NextM.nil
            go_simp
            refine hK.out _ _ (fun h => by simp at h) ?_
            clear hK K
            try simp only [Act.put]
            refine AnyM.done (by kernel_rfl) ?_ _
            have hE := h4.store
            generalize World.setCell (World.setCell Wm ⟨q, 0, none⟩ _) ⟨q, 1, none⟩ _ = WE at hE ⊢
            have e1 := hE.bel
            have e2 := hE.fr
            have e3 := hE.re
            have e4 := hE.ou
            have e5 := hE.va
            have e6 := hE.mi
            rw [show gs LV ++ [.int .i64 x, .int .i64 y] = gs (LV ++ [(x, y)]) from (gs_append LV [(x, y)]).symm, ← HCV.out] at e5
            rw [show ints LM ++ [.int .i64 (mk : Int)] = ints (LM ++ [(mk : Int)]) from (ints_append LM [(mk : Int)]).symm, ← HCM.out] at e6
            go_wp2
            go_roundw
            case rel => exact ⟨k + 1, _, _, by omega, by go_num, e1, e2, e3, e4, e5, e6⟩
            case measure => simp [intOf]; omega
    · obtain rfl : k = N := by omega
      have d1 : decide ((k : Int) + (wave.length : Int) ≤ (samples.length : Int)) = false := by simp; omega
      have d2 : decide (k + wave.length ≤ samples.length) = false := by simp; omega
      obtain ⟨Va, Vc, rfl⟩ := own_shape hVo
      obtain ⟨Ma, Mc, rfl⟩ := own_shape hMo
      have y0 := hOr.cell 0
      have y1 := hOr.cell 1
      simp only [List.getElem?_cons_zero, List.getElem?_cons_succ] at y0 y1
      have x0 := hRr.cell 0
      have x1 := hRr.cell 1
      simp only [List.getElem?_cons_zero, List.getElem?_cons_succ] at x0 x1
      have f0 := hRr.frozen 0
      have f1 := hRr.frozen 1
      have hRE := (hRr.set_ 0 (.slice Va k Vc)).set_ 1 (.slice Ma k Mc)
      have hbE : Below w.heap.size w ((wr.setCell ⟨r, 0, none⟩ (.slice Va k Vc)).setCell ⟨r, 1, none⟩ (.slice Ma k Mc)) := (hwr.setCell (p := ⟨r, 0, none⟩) (by show w.heap.size ≤ r; omega) _).setCell (p := ⟨r, 1, none⟩) (by show w.heap.size ≤ r; omega) _
      have k1 : ∀ (W : World) (i : Nat) (u : Value), W.grownBy (W.setCell ⟨r, i, none⟩ u) (some r) := fun W i u => ⟨rfl, rfl, rfl, by simp [World.setCell], fun b _ hne => Below.heap_setCell W ⟨r, i, none⟩ u b (fun e => hne (by rw [e]))⟩
      have hVE := (hVo.kept (k1 wr 0 (.slice Va k Vc)) (.inr (fun e => by have := (hVo.lt r e).1; omega))).kept (k1 _ 1 (.slice Ma k Mc)) (.inr (fun e => by have := (hVo.lt r e).1; omega))
      have hME := (hMo.kept (k1 wr 0 (.slice Va k Vc)) (.inr (fun e => by have := (hMo.lt r e).1; omega))).kept (k1 _ 1 (.slice Ma k Mc)) (.inr (fun e => by have := (hMo.lt r e).1; omega))
      go_wp2
      generalize World.setCell (World.setCell wr ⟨r, 0, none⟩ _) ⟨r, 1, none⟩ _ = WE at hRE hbE hVE hME ⊢
      have z0 := hRE.cell 0
      have z1 := hRE.cell 1
      simp only [List.set_cons_zero, List.set_cons_succ, List.getElem?_cons_zero, List.getElem?_cons_succ] at z0 z1
      go_wp2
      refine bodyPost_ret (by simp [results, Tryd.results65, go_sem, z0, z1]; try rfl) rfl ?_
      exact ⟨⟨Va, Ma, Vc, Mc, rfl, RdT.of_own hVE, RdT.of_own hME⟩, hbE⟩
end Go.Proofs.YthkmeaibppkhmaaDoor
