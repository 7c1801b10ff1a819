/- Contracts: the offset at a time by an exchange, and what ranges have in common. -/
import Derived.Test.YtnjdkdmfeonabaaE2
set_option linter.unusedSimpArgs false
set_option linter.unusedVariables false
set_option linter.unusedSimpArgs false
set_option linter.unusedVariables false
namespace Go.Proofs.Ytnjdkdmfeonabaa
open Go.RowKit
set_option maxRecDepth 100000

theorem two_new (W : World) (t u : TypeId) (a d : List Value) : Blk ((W.alloc (.cells a.toArray t)).alloc (.cells d.toArray u)) W.heap.size t a ∧ Blk ((W.alloc (.cells a.toArray t)).alloc (.cells d.toArray u)) (W.heap.size + 1) u d ∧ Below W.heap.size W ((W.alloc (.cells a.toArray t)).alloc (.cells d.toArray u)) := by
  have h := Blk.new (W.alloc (.cells a.toArray t)) u d
  rw [show (W.alloc (.cells a.toArray t)).heap.size = W.heap.size + 1 by simp] at h
  exact ⟨(Blk.new W t a).bel (alloc_bel _ _), h, bel_alloc (alloc_bel W _) (by simp) _⟩
/-- How far a time is from an exchange. -/
def farE (s r T : Int) : Int := max (max (s - T) 0) (T - r)
def offV (x : PT) (drift T : Int) : G := (x.2.1 - x.2.2 - upD (drift * farE x.1 x.2.2 T) 1000, x.2.1 - x.1 + upD (drift * farE x.1 x.2.2 T) 1000)
theorem farE_bd {s r T : Int} (hs : 0 ≤ s ∧ s ≤ 1000000000000) (hr : 0 ≤ r ∧ r ≤ 1000000000000) (hT : 0 ≤ T ∧ T ≤ 1000000000000) : 0 ≤ farE s r T ∧ farE s r T ≤ 1000000000000 := by
  unfold farE; omega
theorem mul_bd {a b A B : Int} (h0 : 0 ≤ a) (h1 : a ≤ A) (h2 : 0 ≤ b) (h3 : b ≤ B) : 0 ≤ a * b ∧ a * b ≤ A * B := ⟨Int.mul_nonneg h0 h2, Int.mul_le_mul h1 h3 h2 (by omega)⟩
theorem exE_zero {x : PT} (h : exE x = 0) : (0 ≤ x.1 ∧ x.1 ≤ 1000000000000) ∧ (0 ≤ x.2.1 ∧ x.2.1 ≤ 1000000000000) ∧ (0 ≤ x.2.2 ∧ x.2.2 ≤ 1000000000000) ∧ x.1 ≤ x.2.2 := by
  unfold exE at h
  simp only [firstE] at h
  split at h
  · rename_i h1
    split at h
    · rename_i h2
      split at h
      · rename_i h3
        refine ⟨tickE_zero h1, tickE_zero h2, tickE_zero h3, ?_⟩
        by_cases e : x.2.2 < x.1
        · rw [show decide (x.2.2 < x.1) = true by simpa using e] at h
          simp [errIf] at h
        · omega
      · contradiction
    · contradiction
  · contradiction
set_option maxHeartbeats 1000000 in
theorem offsetBy_c (s t r drift T : Int) (w : World) (hx : exE (s, t, r) = 0) (hd : driftE drift = 0) (hT : tickE T = 0) :
    Calls Try.prog 31 #[.agg #[.int .i64 s, .int .i64 t, .int .i64 r], .int .i64 drift, .int .i64 T] w fun e w' => e = .returned (.agg #[.int .i64 (offV (s, t, r) drift T).1, .int .i64 (offV (s, t, r) drift T).2]) ∧ Below w.heap.size w w' := by
  obtain ⟨⟨s0, s1⟩, ⟨t0, t1⟩, ⟨r0, r1⟩, hsr⟩ := exE_zero hx
  obtain ⟨d0, d1⟩ := driftE_zero hd
  obtain ⟨T0, T1⟩ := tickE_zero hT
  dsimp only at s0 s1 t0 t1 r0 r1 hsr
  have hf := farE_bd ⟨s0, s1⟩ ⟨r0, r1⟩ ⟨T0, T1⟩
  have hm := mul_bd d0 d1 hf.1 hf.2
  have hu := upD_bd hm.1 (show (1 : Int) ≤ 1000 by omega)
  have HR : Hid (offV (s, t, r) drift T = (t - r - upD (drift * farE s r T) 1000, t - s + upD (drift * farE s r T) 1000)) := rfl
  have HF : Hid (farE s r T = max (max (s - T) 0) (T - r)) := rfl
  have HU := hide (fun W => dividedUp_c (drift * farE s r T) 1000 W hm.1 (by omega) (by omega) (by omega))
  clear hx hd hT
  have hd : (if (if s - T < 0 then 0 else s - T) < T - r then T - r else if s - T < 0 then 0 else s - T) = farE s r T := by
    rw [HF.out]; omega
  clear HF
  generalize farE s r T = d at *
  obtain ⟨m, hmm⟩ : ∃ m, drift * d = m := ⟨_, rfl⟩
  rw [hmm] at HU hu hm HR
  generalize upD m 1000 = u at *
  obtain ⟨W, hW⟩ : ∃ W, (w.alloc (.cells #[.int .i64 s, .int .i64 t, .int .i64 r] 57)).alloc (.cells #[.int .i64 0, .int .i64 0] 31) = W := ⟨_, rfl⟩
  have h2 := two_new w 57 31 [.int .i64 s, .int .i64 t, .int .i64 r] [.int .i64 0, .int .i64 0]
  have hX : Blk W w.heap.size 57 [.int .i64 s, .int .i64 t, .int .i64 r] := by rw [← hW]; exact h2.1
  have hY : Blk W (w.heap.size + 1) 31 [.int .i64 0, .int .i64 0] := by rw [← hW]; exact h2.2.1
  have hB : Below w.heap.size w W := by rw [← hW]; exact h2.2.2
  have HW := hide hW
  clear hW h2
  have c0 := hX.cell 0; have c1 := hX.cell 1; have c2 := hX.cell 2; simp only [List.getElem?_cons_zero, List.getElem?_cons_succ] at c0 c1 c2
  have k0 := hY.cell 0; have k1 := hY.cell 1; simp only [List.getElem?_cons_zero, List.getElem?_cons_succ] at k0 k1
  have hzX := hX.lt
  have hzY := hY.lt
  have f0 := hY.frozen 0
  have f1 := hY.frozen 1
  go_enter Try.func31, Try.ntmps31
  go_upto_region 1 with fail
  rw [HW.out]
  go_upto_region 2 with fail
  go_upto_region 3 with (first | (go_at_call 43; refine (HU.out _).mono ?_; rintro e_ w_ ⟨rfl, rfl⟩))
  go_wp2
  obtain ⟨WE, hWE⟩ : ∃ WE, (W.setCell ⟨w.heap.size + 1, 0, none⟩ (.int .i64 (t - r - u))).setCell ⟨w.heap.size + 1, 1, none⟩ (.int .i64 (t - s + u)) = WE := ⟨_, rfl⟩
  rw [hWE]
  have hE : Blk WE (w.heap.size + 1) 31 [.int .i64 (t - r - u), .int .i64 (t - s + u)] := by rw [← hWE]; exact (hY.set_ 0 _).set_ 1 _
  have hBE : Below w.heap.size w WE := by rw [← hWE]; exact (hB.setCell (by show w.heap.size ≤ w.heap.size + 1; omega) _).setCell (by show w.heap.size ≤ w.heap.size + 1; omega) _
  clear hWE
  have y0 := hE.cell 0; have y1 := hE.cell 1; simp only [List.getElem?_cons_zero, List.getElem?_cons_succ] at y0 y1
  exact bodyPost_ret (v := .agg #[.int .i64 (t - r - u), .int .i64 (t - s + u)]) (by simp [results, Try.results31, go_sem, y0, y1]; try rfl) rfl ⟨(by rw [HR.out]), hBE⟩

/-- What two ranges have in common. -/
def comR (a b : G) : G := (max a.1 b.1, min a.2 b.2)
theorem common_c (a b c d : Int) (w : World) :
    Calls Try.prog 18 #[.agg #[.int .i64 a, .int .i64 b], .agg #[.int .i64 c, .int .i64 d]] w fun e w' => e = .returned (.agg #[.int .i64 (comR (a, b) (c, d)).1, .int .i64 (comR (a, b) (c, d)).2]) ∧ Below w.heap.size w w' := by
  have h1 : (if a < c then c else a) = max a c := by omega
  have h2 : (if d < b then d else b) = min b d := by omega
  have HR : Hid (comR (a, b) (c, d) = (max a c, min b d)) := rfl
  generalize max a c = x at *
  generalize min b d = y at *
  obtain ⟨W, hW⟩ : ∃ W, ((w.alloc (.cells #[.int .i64 a, .int .i64 b] 31)).alloc (.cells #[.int .i64 c, .int .i64 d] 31)).alloc (.cells #[.int .i64 0, .int .i64 0] 31) = W := ⟨_, rfl⟩
  have k2 := two_new w 31 31 [.int .i64 a, .int .i64 b] [.int .i64 c, .int .i64 d]
  have hX : Blk W w.heap.size 31 [.int .i64 a, .int .i64 b] := by rw [← hW]; exact k2.1.bel (alloc_bel _ _)
  have hZ : Blk W (w.heap.size + 1) 31 [.int .i64 c, .int .i64 d] := by rw [← hW]; exact k2.2.1.bel (alloc_bel _ _)
  have hY : Blk W (w.heap.size + 1 + 1) 31 [.int .i64 0, .int .i64 0] := by
    rw [← hW]; have := Blk.new ((w.alloc (.cells #[.int .i64 a, .int .i64 b] 31)).alloc (.cells #[.int .i64 c, .int .i64 d] 31)) 31 [.int .i64 0, .int .i64 0]
    simpa using this
  have hB : Below w.heap.size w W := by rw [← hW]; exact bel_alloc k2.2.2 (by simp; omega) _
  have HW := hide hW
  clear hW k2
  have c0 := hX.cell 0; have c1 := hX.cell 1; simp only [List.getElem?_cons_zero, List.getElem?_cons_succ] at c0 c1
  have g0 := hZ.cell 0; have g1 := hZ.cell 1; simp only [List.getElem?_cons_zero, List.getElem?_cons_succ] at g0 g1
  have k0 := hY.cell 0; have k1 := hY.cell 1; simp only [List.getElem?_cons_zero, List.getElem?_cons_succ] at k0 k1
  have hzX := hX.lt
  have hzY := hY.lt
  have f0 := hY.frozen 0
  have f1 := hY.frozen 1
  go_enter Try.func18, Try.ntmps18
  go_upto_region 1 with fail
  rw [HW.out]
  go_wp2
  obtain ⟨WE, hWE⟩ : ∃ WE, (W.setCell ⟨w.heap.size + 1 + 1, 0, none⟩ (.int .i64 x)).setCell ⟨w.heap.size + 1 + 1, 1, none⟩ (.int .i64 y) = WE := ⟨_, rfl⟩
  rw [hWE]
  have hE : Blk WE (w.heap.size + 1 + 1) 31 [.int .i64 x, .int .i64 y] := by rw [← hWE]; exact (hY.set_ 0 _).set_ 1 _
  have hBE : Below w.heap.size w WE := by rw [← hWE]; exact (hB.setCell (by show w.heap.size ≤ w.heap.size + 1 + 1; omega) _).setCell (by show w.heap.size ≤ w.heap.size + 1 + 1; omega) _
  clear hWE
  have y0 := hE.cell 0; have y1 := hE.cell 1; simp only [List.getElem?_cons_zero, List.getElem?_cons_succ] at y0 y1
  exact bodyPost_ret (v := .agg #[.int .i64 x, .int .i64 y]) (by simp [results, Try.results18, go_sem, y0, y1]; try rfl) rfl ⟨(by rw [HR.out]), hBE⟩

theorem isEmpty_c (a b : Int) (w : World) :
    Calls Try.prog 19 #[.agg #[.int .i64 a, .int .i64 b]] w fun e w' => e = .returned (.bool (decide (b < a))) ∧ Below w.heap.size w w' := by
  go_enter Try.func19, Try.ntmps19
  go_wp2
  go_ret
  exact ⟨rfl, alloc_bel _ _⟩

/-- The errors of exchanges, a drift and a time. -/
def offE (l : List PT) (drift T : Int) : Int := firstE [exsE l, driftE drift, tickE T]
/-- What is known of exchanges, a drift and a time without an error. -/
structure Offs (l : List PT) (drift T : Int) : Prop where
  n0 : 1 ≤ l.length
  n1 : l.length ≤ 20
  ex : ∀ k (h : k < l.length), exE l[k] = 0
  d : driftE drift = 0
  t : tickE T = 0
theorem firstBadFrom_snd {α : Type} {chk : Nat → α → Int} {l : List α} (h : (firstBadFrom chk 0 l).2 = 0) : ∀ k (hk : k < l.length), chk k l[k] = 0 := by
  intro k
  induction k using Nat.strongRecOn with
  | _ k ih =>
    intro hk
    by_cases e : chk k l[k] = 0
    · exact e
    · have := firstBadFrom_some chk l 0 k hk (fun i hi => by simpa using ih i hi (by omega)) (by simpa using e)
      rw [this] at h
      simpa using h
theorem errIf_zero {b : Bool} {e : Int} (he : e ≠ 0) (h : errIf b e = 0) : b = false := by
  cases b
  · rfl
  · exact absurd h he
theorem firstE_3 {a b c : Int} (h : firstE [a, b, c] = 0) : a = 0 ∧ b = 0 ∧ c = 0 := by
  simp only [firstE] at h
  by_cases h1 : a = 0
  · rw [if_pos h1] at h
    by_cases h2 : b = 0
    · rw [if_pos h2] at h
      by_cases h3 : c = 0
      · exact ⟨h1, h2, h3⟩
      · rw [if_neg h3] at h; exact absurd h h3
    · rw [if_neg h2] at h; exact absurd h h2
  · rw [if_neg h1] at h; exact absurd h h1
theorem offE_zero {l : List PT} {drift T : Int} (h : offE l drift T = 0) : Offs l drift T := by
  obtain ⟨h1, h2, h3⟩ := firstE_3 h
  obtain ⟨h4, h5, h6⟩ := firstE_3 h1
  have h7 := errIf_zero (by decide) h4
  have h8 := errIf_zero (by decide) h5
  simp at h7 h8
  refine ⟨?_, by omega, firstBadFrom_snd h6, h2, h3⟩
  rcases Nat.eq_zero_or_pos l.length with e | e
  · exact absurd (List.eq_nil_of_length_eq_zero e) h7
  · omega
/-- The offsets by several exchanges. -/
def offL (l : List PT) (drift T : Int) : List G := l.map fun x => offV x drift T
@[simp] theorem offL_length (l : List PT) (drift T : Int) : (offL l drift T).length = l.length := by simp [offL]
theorem offL_at {l : List PT} {drift T : Int} {k : Nat} (h : k < l.length) : (offL l drift T)[k]'(by simpa using h) = offV l[k] drift T := by simp [offL]

theorem Try.infoR : (Try.prog.info? 31).map (fun i => (i.zero, i.size, i.bytes)) = some (some (.agg #[.int .i64 0, .int .i64 0]), 2, 16) := by kernel_rfl
theorem offsetsBy_bad (A : Option Addr) (c : Nat) (l : List PT) (drift T : Int) (w : World) (hr : Rd w A (ps l)) (hl : l.length ≤ 1000) (he : offE l drift T ≠ 0) :
    Calls Try.prog 17 #[.slice A l.length c, .int .i64 drift, .int .i64 T] w fun e w' => e = .returned (.tuple #[.slice none 0 0, .int .i64 (offE l drift T)]) ∧ Below w.heap.size w w' := by
  have HX := hide (fun W (h : Rd W A (ps l)) => exchangesError_c A c l W h hl)
  have HR : Hid (offE l drift T = firstE [exsE l, driftE drift, tickE T]) := rfl
  have e1 : (offE l drift T != 0) = true := by simpa using he
  clear he
  generalize exsE l = E at HX HR
  go_enter Try.func17, Try.ntmps17
  go_upto_region 2 with (first
    | (go_at_call 28; refine (HX.out _ hr).mono ?_; rintro e_ w1 ⟨rfl, hb1⟩)
    | (go_at_call 29; refine (driftError_c _ _).mono ?_; rintro e_ w_ ⟨rfl, rfl⟩)
    | (go_at_call 30; refine (tickError_c _ _).mono ?_; rintro e_ w_ ⟨rfl, rfl⟩)
    | (go_at_call 27; refine (firstError_3 _ _ _ _).mono ?_; rintro e_ w_ ⟨rfl, rfl⟩))
  rw [← HR.out]
  go_wp2
  go_ret2
  exact ⟨rfl, bel_tr hb1 hb1.size (alloc_bel _ _)⟩
set_option maxHeartbeats 1000000 in
theorem offsetsBy_ok (A : Option Addr) (c : Nat) (l : List PT) (drift T : Int) (w : World) (hr : Rd w A (ps l)) (hl : l.length ≤ 1000) (he : offE l drift T = 0) :
    Calls Try.prog 17 #[.slice A l.length c, .int .i64 drift, .int .i64 T] w fun e w' => (∃ A' c', e = .returned (.tuple #[.slice A' l.length c', .int .i64 0]) ∧ Rd w' A' (gs (offL l drift T))) ∧ Below w.heap.size w w' := by
  obtain ⟨i0, hi, iz0, iz1, iz2⟩ := info_parts Try.infoR
  have HX := hide (fun W (h : Rd W A (ps l)) => exchangesError_c A c l W h hl)
  have HR : Hid (offE l drift T = firstE [exsE l, driftE drift, tickE T]) := rfl
  have e1 : (offE l drift T != 0) = false := by simpa using he
  have hO := offE_zero he
  have hn1 := hO.n1
  have HO1 := hide (fun (k : Nat) (h : k < l.length) W => offsetBy_c l[k].1 l[k].2.1 l[k].2.2 drift T W (hO.ex k h) hO.d hO.t)
  have HL := hide (fun (k : Nat) (h : k < l.length) => show (offL l drift T).take (k + 1) = (offL l drift T).take k ++ [offV l[k] drift T] by rw [List.take_succ_eq_append_getElem (by simpa using h), offL_at h])
  clear hO
  rw [he] at HR e1
  clear he
  generalize exsE l = E at HX HR
  go_enter Try.func17, Try.ntmps17
  go_upto_region 2 with (first
    | (go_at_call 28; refine (HX.out _ hr).mono ?_; rintro e_ w1 ⟨rfl, hb1⟩)
    | (go_at_call 29; refine (driftError_c _ _).mono ?_; rintro e_ w_ ⟨rfl, rfl⟩)
    | (go_at_call 30; refine (tickError_c _ _).mono ?_; rintro e_ w_ ⟨rfl, rfl⟩)
    | (go_at_call 27; refine (firstError_3 _ _ _ _).mono ?_; rintro e_ w_ ⟨rfl, rfl⟩))
  rw [← HR.out]
  obtain ⟨w2, hW2⟩ : ∃ W, w1.alloc (.cells #[.int .i64 E, .int .i64 (driftE drift), .int .i64 (tickE T)] 25) = W := ⟨_, rfl⟩
  have hb2 : Below w.heap.size w w2 := by rw [← hW2]; exact bel_tr hb1 hb1.size (alloc_bel _ _)
  rw [hW2]
  clear hW2 hb1 HX HR
  have hr2 := hr.bel hb2
  have hq2 := hb2.size
  clear hr
  go_wp2
  go_loopw [9, 25] (fun v x wr => ∃ k : Nat, k ≤ l.length ∧ x = .int .i64 k ∧ Below w2.heap.size w2 wr ∧ wr.ownsRow w2.heap.size 31 2 v k (gs ((offL l drift T).take k))) (fun _ x _ => l.length - (intOf x).toNat)
  case atStart => exact ⟨0, Nat.zero_le _, rfl, Below.refl _ _, by simpa using World.ownsRow_nil _ _ _ _⟩
  case round =>
    obtain ⟨k, hk, rfl, hbr, hown⟩ := hrel
    have hrr := hr2.bel hbr
    have hsz := hbr.size
    by_cases hlt : k < l.length
    · obtain ⟨b, off, rfl, hblt, x0, x1, x2⟩ := hrr.p_at hlt
      have HO := hide (HO1.out k hlt)
      have HF := hide (HL.out k hlt)
      rw [show (l[k].1, l[k].2.1, l[k].2.2) = l[k] from rfl] at HO
      generalize offV l[k] drift T = o at HF HO
      obtain ⟨o1, o2⟩ := o
      dsimp only at HO HF
      clear HO1 HL
      go_wp2_with (first
        | (go_at_call 31; refine (HO.out _).mono ?_; rintro e_ w5 ⟨rfl, hb5⟩)
        | (at_builtin; refine wpList_append_own _ rfl _ _ 51 rfl w2.heap.size 31 i0 _ 2 16 Try.underlying51 hi iz0 iz1 iz2 rfl (by decide) _ _ _ rfl ((ownsRow_bel (hown.alloc _) hb5).alloc _) ⟨w5.heap.size, 0, none⟩ 1 1 [.int .i64 o1, .int .i64 o2] rfl rfl (World.news_of_block (heap_alloc_new w5 _)) (by simp [Value.oneCell']) (by unfold maxLen; omega) (by omega) (by have := hb5.size; simp at this ⊢; omega) ?_; intro v' w8 hown8 hg8 _))
      have hb6 : Below w2.heap.size w2 w5 := hbr.trans (tr (alloc_bel wr (.cells #[.int .i64 l[k].1, .int .i64 l[k].2.1, .int .i64 l[k].2.2] 57)) hb5 (by simp) |>.mono hsz)
      have hb8 : Below w2.heap.size w2 w8 := (bel_alloc hb6 (by have := hb5.size; simp at this; omega) _).grown hg8 (by have := hb5.size; simp at this ⊢; omega) (fun j hj => by have := (hown.lt j hj).1; omega)
      go_roundw
      case rel => exact ⟨k + 1, by omega, by go_num, hb8, by rw [HF.out, gs_append]; exact hown8⟩
      case measure => simp [intOf]; omega
    · obtain rfl : k = l.length := by omega
      obtain ⟨A', c', rfl⟩ := ownsRow_slice hown
      have hrw := Rd.of_own hown
      go_wp2
      refine bodyPost_ret (v := .tuple #[.slice A' l.length c', .int .i64 0]) (by simp [results, Try.results17, go_sem]; try rfl) rfl ⟨⟨A', c', rfl, ?_⟩, hb2.trans (hbr.mono hq2)⟩
      rwa [List.take_of_length_le (by simp)] at hrw
end Go.Proofs.Ytnjdkdmfeonabaa
