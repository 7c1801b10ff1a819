/- Contracts: an item put into a queue. -/
import Derived.Test.YtohdjhdkmdhhcaaE79
import Derived.Deep.AppendLies
set_option linter.unusedSimpArgs false
set_option linter.unusedVariables false
set_option linter.unusedSimpArgs false
set_option linter.unusedVariables false
namespace Go.Proofs.Ytohdjhdkmdhhcaa
open Go.RowKit
set_option maxRecDepth 100000

/-- At a step of a region: 'append(s, x...)', s the call's own, x a slice that reads as these cells (nil, too). -/
theorem step_append_rd {P : Program} (w : World) {ops : Array Oper} {o : Oper} {a : Act} {K : Act → World → Prop} {Q : Exit → Act → World → Prop} {E : Prop} (hgd : o.guard = none) (s x : Operand) (t : TypeId)
    (ho : o.op = .call { callee := .builtin .append, args := #[s, x], argTypes := #[t, t] })
    (base : Nat) (e : TypeId) (i : TypeInfo) (z : Value) (size bytes : Nat) (ht : P.underlying t = some (.slice e)) (hi : P.info? e = some i) (hz : i.zero = some z)
    (hsize : i.size = size) (hby : i.bytes = bytes) (hzs : z.cells.size = size) (hsz : 0 < size)
    (v : Value) (n : Nat) (xs : List Value) (hs : a.eval s = v) (hown : w.ownsRow base e size v n xs)
    (A : Option Addr) (m c : Nat) (news : List Value) (hx : a.eval x = .slice A m c) (hl : news.length = m * size) (hr : Rd w A news) (h1 : ∀ u ∈ news, u.oneCell' = true)
    (h63 : n + m ≤ maxLen) (hbytes : (n + m) * bytes ≤ 140737488355328) (hbase : base ≤ w.heap.size)
    (h : ∀ v' w', w'.ownsRow base e size v' (n + m) (xs ++ news) → w.grownBy w' v.ownBlock → K (a.put o.dst v') w') :
    if Region.wanted o (yielded ops a.tmps) = true then Oper.wp P o a w K Q else E := by
  have hw : Region.wanted o (yielded ops a.tmps) = true := by simp [Region.wanted, hgd]
  by_cases hm : m = 0
  · rw [if_pos hw]
    subst hm
    have hn : news = [] := List.eq_nil_of_length_eq_zero (by simpa using hl)
    subst hn
    have hrun : (Builtin.append_ #[t, t] o.type #[v, .slice A 0 c]).run P w = .ok v w := by
      rcases hown.2 with ⟨rfl, rfl⟩ | ⟨g, cap, cur, rfl, _, _, hnc, _⟩
      · cases A <;> simp [Builtin.append_, run_underlying ht, sizeOf, typeInfo, hi, Builtin.lenOf, Builtin.firstCells, loadCells, loadCellsFrom, Result.andThen]
      · cases A <;> simp [Builtin.append_, run_underlying ht, sizeOf, typeInfo, hi, Builtin.lenOf, Builtin.firstCells, hnc, storeCells, loadCells, loadCellsFrom, Result.andThen]
    unfold Oper.wp
    simp [execOp, ho, resolve, invoke, builtin, hs, hx, hrun, Result.andThen]
    exact h v w (by simpa using hown) ⟨rfl, rfl, rfl, Nat.le_refl _, fun _ _ _ => rfl⟩
  · have hne : news ≠ [] := by
      rintro rfl
      have := Nat.mul_pos (show 0 < m by omega) hsz
      simp at hl
      omega
    obtain ⟨b, off, hA, _, hc⟩ := hr hne
    subst hA
    have hnews : ∀ j u, news[j]? = some u → w.cell? ((⟨b, off, none⟩ : Addr).add j) = some u := by
      intro j u hu
      have hadd : (⟨b, off, none⟩ : Addr).add j = ⟨b, off + j, none⟩ := by unfold Addr.add; split <;> simp_all
      rw [hadd]
      exact hc j u hu
    exact step_append_lies w hgd s x t ho base e i z size bytes ht hi hz hsize hby hzs hsz v n xs hs hown _ m c news hx hl hnews h1 (by omega) h63 hbytes hbase _ rfl fun g cap w' h2 h3 _ _ => h _ w' h2 h3


theorem own_ne {w : World} {b1 b2 s1 s2 n1 n2 : Nat} {e1 e2 : TypeId} {v1 v2 : Value} {x1 x2 : List Value} (h1 : w.ownsRow b1 e1 s1 v1 n1 x1) (h2 : w.ownsRow b2 e2 s2 v2 n2 x2) (hne : e1 ≠ e2) : v1.ownBlock = none ∨ v1.ownBlock ≠ v2.ownBlock := by
  rcases h1.2 with ⟨rfl, _⟩ | ⟨g, cap, cur, rfl, _, hg, _⟩
  · exact .inl rfl
  · right
    rcases h2.2 with ⟨rfl, _⟩ | ⟨g', cap', cur', rfl, _, hg', _⟩
    · simp [Value.ownBlock]
    · simp only [Value.ownBlock, ne_eq, Option.some.injEq]
      rintro rfl
      rw [hg] at hg'
      injection hg' with hg'
      injection hg' with _ hg'
      exact hne hg'
theorem own_mono {w : World} {base base' : Nat} {e : TypeId} {size n : Nat} {v : Value} {xs : List Value} (h : w.ownsRow base e size v n xs) (hb : base' ≤ base) : w.ownsRow base' e size v n xs :=
  ⟨h.1, h.2.imp id fun ⟨g, cap, cur, h1, h2, h3⟩ => ⟨g, cap, cur, h1, Nat.le_trans hb h2, h3⟩⟩
theorem Try.infoStr : (Try.prog.info? 9).map (fun i => (i.zero, i.size, i.bytes)) = some (some (.string ByteArray.empty), 1, 16) := by kernel_rfl
/-- The error of an item that is put into a queue. -/
def putE (q : List IT) (x : IT) (cap : Int) : Int := firstE [(queE q).2, itemE q x, errIf (outB cap 0 200000) 2, errIf ((q.length : Int) == 20) 8]
structure PutOk (q : List IT) (x : IT) (cap : Int) : Prop where
  que : (queE q).2 = 0
  item : itemE q x = 0
  c0 : 0 ≤ cap
  c1 : cap ≤ 200000
  len : q.length + 1 ≤ 20
theorem putE_zero {q : List IT} {x : IT} {cap : Int} (h : putE q x cap = 0) : PutOk q x cap := by
  unfold putE at h
  rw [firstE_cons_zero, firstE_cons_zero, firstE_cons_zero] at h
  obtain ⟨h1, h2, h3, h4⟩ := h
  have h4' : errIf ((q.length : Int) == 20) 8 = 0 := by
    by_cases e : errIf ((q.length : Int) == 20) 8 = 0
    · exact e
    · simp only [firstE, if_neg e] at h4; exact h4
  have h5 := outB_false.1 (errIf_zero (by decide) h3)
  have h6 := errIf_zero (by decide) h4'
  have h7 := queE_len h1
  exact ⟨h1, h2, h5.1, h5.2, by simp at h6; omega⟩
theorem sub_small {q all : List IT} (h : q.Sublist all) (hs : SmallS all) : SmallS q := fun x hx => hs x (h.mem hx)
def slcLen : Value → Nat
  | .slice _ n _ => n
  | _ => 0

set_option maxHeartbeats 4000000 in
theorem put_bad (q : List IT) (n : ByteArray) (p s t cp : Int) (A : Option Addr) (c : Nat) (w : World) (hr : Rd w A (its q)) (hl : q.length ≤ 1000) (hc : q.length ≤ c) (hn : ∀ k (h : k < q.length), q[k].1.size ≤ 1000) (hns : n.size ≤ 1000) (he : putE q (n, p, s, t) cp ≠ 0) :
    Calls Try.prog 15 #[.slice A q.length c, .agg #[.string n, .int .i64 p, .int .i64 s, .int .i64 t], .int .i64 cp] w fun r w' => r = .returned (.tuple #[.slice none 0 0, .slice none 0 0, .int .i64 (putE q (n, p, s, t) cp)]) ∧ Below w.heap.size w w' := by
  have hX := Blk.new w 37 [.string n, .int .i64 p, .int .i64 s, .int .i64 t]
  have hbel := alloc_bel w (.cells #[.string n, .int .i64 p, .int .i64 s, .int .i64 t] 37)
  have hrW := hr.bel hbel
  generalize hW : w.alloc (.cells #[.string n, .int .i64 p, .int .i64 s, .int .i64 t] 37) = W at hX hbel hrW
  have HW := hide hW
  clear hW
  have HQ := hide (fun W' (hb : Below W.heap.size W W') => queueError_c q A c W' (hrW.bel hb) (by omega) hc hn)
  have HI := hide (fun W' (hb : Below W.heap.size W W') => itemError_c A c q n p s t W' (hrW.bel hb) (by omega) hns)
  have HE0 : Hid (firstE [(queE q).2, itemE q (n, p, s, t), errIf (outB cp 0 200000) 2, errIf ((q.length : Int) == 20) 8] = putE q (n, p, s, t) cp) := rfl
  obtain ⟨E, hE⟩ : ∃ E, putE q (n, p, s, t) cp = E := ⟨_, rfl⟩
  rw [hE] at he HE0
  have HR := hide hE
  generalize (queE q).2 = eq at HQ HE0
  generalize itemE q (n, p, s, t) = ei at HI HE0
  clear hE
  have c0 := hX.cell 0; have c1 := hX.cell 1; have c2 := hX.cell 2; have c3 := hX.cell 3; simp only [List.getElem?_cons_zero, List.getElem?_cons_succ] at c0 c1 c2 c3
  have hzW := hX.lt
  go_enter Try.func15, Try.ntmps15
  go_upto_region 1 with fail
  rw [HW.out]
  go_region_held3 (fun w' => (∀ b o, b < W.heap.size → w'.cell? ⟨b, o, none⟩ = W.cell? ⟨b, o, none⟩) ∧ Below W.heap.size W w')
    ((refine kp ?_; (repeat' (first | with_reducible exact Below.refl _ _ | with_reducible exact HB1.out | with_reducible refine Below.drew ?_ | with_reducible refine bel_alloc ?_ ?_ _)); all_goals (first | omega | (simp <;> omega))))
    (first
      | (go_at_call 36; refine (HQ.out _ (by (repeat' (first | with_reducible exact Below.refl _ _ | with_reducible exact HB1.out | with_reducible refine Below.drew ?_ | with_reducible refine bel_alloc ?_ ?_ _)); all_goals (first | omega | (simp <;> omega)))).mono ?_; rintro e_ w5 ⟨rfl, hb5⟩; have HB1 : Hid (Below W.heap.size W w5) := (by refine hide (Below.trans ?_ (hb5.mono ?_)); (repeat' (first | with_reducible exact Below.refl _ _ | with_reducible exact HB1.out | with_reducible refine Below.drew ?_ | with_reducible refine bel_alloc ?_ ?_ _)); all_goals (first | omega | (simp <;> omega))); have s1 := HB1.out.size)
      | (go_at_call 35; refine (HI.out _ (by (repeat' (first | with_reducible exact Below.refl _ _ | with_reducible exact HB1.out | with_reducible refine Below.drew ?_ | with_reducible refine bel_alloc ?_ ?_ _)); all_goals (first | omega | (simp <;> omega)))).mono ?_; rintro e_ w5 ⟨rfl, hb5⟩; have HB1 : Hid (Below W.heap.size W w5) := (by refine hide (Below.trans ?_ (hb5.mono ?_)); (repeat' (first | with_reducible exact Below.refl _ _ | with_reducible exact HB1.out | with_reducible refine Below.drew ?_ | with_reducible refine bel_alloc ?_ ?_ _)); all_goals (first | omega | (simp <;> omega))); have s1 := HB1.out.size)
      | (go_at_call 41; refine (rangeError_c _ _ _ _).mono ?_; rintro e_ w_ ⟨rfl, rfl⟩)
      | (go_at_call 42; refine (errorIf_c _ _ _).mono ?_; rintro e_ w_ ⟨rfl, rfl⟩)
      | (go_at_call 40; refine (firstError_4D _ _ _ _ _).mono ?_; rintro e_ w_ ⟨rfl, rfl⟩)
      | (go_at_call 40; refine (firstError_4 _ _ _ _ _).mono ?_; rintro e_ w_ ⟨rfl, rfl⟩))
  have hb2 : Below W.heap.size W (w5.alloc (.cells #[.int .i64 eq, .int .i64 ei, .int .i64 (errIf (outB cp 0 200000) 2), .int .i64 (errIf ((q.length : Int) == 20) 8)] 25)) := bel_alloc HB1.out (by omega) _
  generalize w5.alloc (.cells #[.int .i64 eq, .int .i64 ei, .int .i64 (errIf (outB cp 0 200000) 2), .int .i64 (errIf ((q.length : Int) == 20) 8)] 25) = w2 at hb2 ⊢
  rw [HE0.out]
  clear HE0 HQ HI c0 c1 c2 c3 HB1 hb5 s1
  have e1 : (E != 0) = true := by simpa using he
  clear he
  go_wp2
  go_ret3
  exact ⟨by rw [HR.out]; rfl, bel_tr hbel (by omega) hb2⟩
set_option maxHeartbeats 8000000 in
theorem put_ok (q : List IT) (n : ByteArray) (p s t cp : Int) (A : Option Addr) (c : Nat) (w : World) (hr : Rd w A (its q)) (hl : q.length ≤ 1000) (hc : q.length ≤ c) (hn : ∀ k (h : k < q.length), q[k].1.size ≤ 1000) (hns : n.size ≤ 1000) (he : putE q (n, p, s, t) cp = 0) :
    Calls Try.prog 15 #[.slice A q.length c, .agg #[.string n, .int .i64 p, .int .i64 s, .int .i64 t], .int .i64 cp] w fun r w' => (∃ A' c' B' d', r = .returned (.tuple #[.slice A' (putL q (n, p, s, t) cp).1.length c', .slice B' (putL q (n, p, s, t) cp).2.length d', .int .i64 0]) ∧ Rd w' A' (its (putL q (n, p, s, t) cp).1) ∧ Rd w' B' (txs (putL q (n, p, s, t) cp).2)) ∧ Below w.heap.size w w' := by
  have hok := putE_zero he
  obtain ⟨i0, hi, iz0, iz1, iz2⟩ := info_parts Try.infoT
  obtain ⟨j0, hj, jz0, jz1, jz2⟩ := info_parts Try.infoStr
  have hX := Blk.new w 37 [.string n, .int .i64 p, .int .i64 s, .int .i64 t]
  have hbel := alloc_bel w (.cells #[.string n, .int .i64 p, .int .i64 s, .int .i64 t] 37)
  have hrW := hr.bel hbel
  generalize hW : w.alloc (.cells #[.string n, .int .i64 p, .int .i64 s, .int .i64 t] 37) = W at hX hbel hrW
  have HW := hide hW
  clear hW
  have HQ := hide (fun W' (hb : Below W.heap.size W W') => queueError_c q A c W' (hrW.bel hb) (by omega) hc hn)
  have HI := hide (fun W' (hb : Below W.heap.size W W') => itemError_c A c q n p s t W' (hrW.bel hb) (by omega) hns)
  have HE0 : Hid (firstE [(queE q).2, itemE q (n, p, s, t), errIf (outB cp 0 200000) 2, errIf ((q.length : Int) == 20) 8] = putE q (n, p, s, t) cp) := rfl
  obtain ⟨E, hE⟩ : ∃ E, putE q (n, p, s, t) cp = E := ⟨_, rfl⟩
  rw [hE] at he HE0
  have HR := hide hE
  generalize (queE q).2 = eq at HQ HE0
  generalize itemE q (n, p, s, t) = ei at HI HE0
  clear hE
  have c0 := hX.cell 0; have c1 := hX.cell 1; have c2 := hX.cell 2; have c3 := hX.cell 3; simp only [List.getElem?_cons_zero, List.getElem?_cons_succ] at c0 c1 c2 c3
  have hzW := hX.lt
  go_enter Try.func15, Try.ntmps15
  go_upto_region 1 with fail
  rw [HW.out]
  go_region_held3 (fun w' => (∀ b o, b < W.heap.size → w'.cell? ⟨b, o, none⟩ = W.cell? ⟨b, o, none⟩) ∧ Below W.heap.size W w')
    ((refine kp ?_; (repeat' (first | with_reducible exact Below.refl _ _ | with_reducible exact HB1.out | with_reducible refine Below.drew ?_ | with_reducible refine bel_alloc ?_ ?_ _)); all_goals (first | omega | (simp <;> omega))))
    (first
      | (go_at_call 36; refine (HQ.out _ (by (repeat' (first | with_reducible exact Below.refl _ _ | with_reducible exact HB1.out | with_reducible refine Below.drew ?_ | with_reducible refine bel_alloc ?_ ?_ _)); all_goals (first | omega | (simp <;> omega)))).mono ?_; rintro e_ w5 ⟨rfl, hb5⟩; have HB1 : Hid (Below W.heap.size W w5) := (by refine hide (Below.trans ?_ (hb5.mono ?_)); (repeat' (first | with_reducible exact Below.refl _ _ | with_reducible exact HB1.out | with_reducible refine Below.drew ?_ | with_reducible refine bel_alloc ?_ ?_ _)); all_goals (first | omega | (simp <;> omega))); have s1 := HB1.out.size)
      | (go_at_call 35; refine (HI.out _ (by (repeat' (first | with_reducible exact Below.refl _ _ | with_reducible exact HB1.out | with_reducible refine Below.drew ?_ | with_reducible refine bel_alloc ?_ ?_ _)); all_goals (first | omega | (simp <;> omega)))).mono ?_; rintro e_ w5 ⟨rfl, hb5⟩; have HB1 : Hid (Below W.heap.size W w5) := (by refine hide (Below.trans ?_ (hb5.mono ?_)); (repeat' (first | with_reducible exact Below.refl _ _ | with_reducible exact HB1.out | with_reducible refine Below.drew ?_ | with_reducible refine bel_alloc ?_ ?_ _)); all_goals (first | omega | (simp <;> omega))); have s1 := HB1.out.size)
      | (go_at_call 41; refine (rangeError_c _ _ _ _).mono ?_; rintro e_ w_ ⟨rfl, rfl⟩)
      | (go_at_call 42; refine (errorIf_c _ _ _).mono ?_; rintro e_ w_ ⟨rfl, rfl⟩)
      | (go_at_call 40; refine (firstError_4D _ _ _ _ _).mono ?_; rintro e_ w_ ⟨rfl, rfl⟩)
      | (go_at_call 40; refine (firstError_4 _ _ _ _ _).mono ?_; rintro e_ w_ ⟨rfl, rfl⟩))
  have hb2 : Below W.heap.size W (w5.alloc (.cells #[.int .i64 eq, .int .i64 ei, .int .i64 (errIf (outB cp 0 200000) 2), .int .i64 (errIf ((q.length : Int) == 20) 8)] 25)) := bel_alloc HB1.out (by omega) _
  generalize w5.alloc (.cells #[.int .i64 eq, .int .i64 ei, .int .i64 (errIf (outB cp 0 200000) 2), .int .i64 (errIf ((q.length : Int) == 20) 8)] 25) = w2 at hb2 ⊢
  rw [HE0.out]
  clear HE0 HQ HI c0 c1 c2 c3 HB1 hb5 s1
  subst he
  have hB2 := bel_tr hbel (by omega) hb2
  have hr2 := hrW.bel hb2
  have hX2 := hX.bel hb2
  have hz2 := hX2.lt
  have hB2s : w.heap.size ≤ w2.heap.size := by omega
  clear hb2 hX hrW hr
  have d0 := hX2.cell 0; have d1 := hX2.cell 1; have d2 := hX2.cell 2; have d3 := hX2.cell 3; simp only [List.getElem?_cons_zero, List.getElem?_cons_succ] at d0 d1 d2 d3
  go_upto_region 4 with fail
  go_cut [10] from 30 to 34 (fun v wx => ∃ g cap : Nat, v = .slice (some ⟨g, 0, none⟩) (q ++ [(n, p, s, t)]).length cap ∧ wx.ownsRow w.heap.size 37 4 (.slice (some ⟨g, 0, none⟩) (q ++ [(n, p, s, t)]).length cap) (q ++ [(n, p, s, t)]).length (its (q ++ [(n, p, s, t)])) ∧ Below w.heap.size w wx)
  case first =>
    have hSd : (∀ b o, b < w2.heap.size → w2.drew.cell? ⟨b, o, none⟩ = w2.cell? ⟨b, o, none⟩) ∧ Below w2.heap.size w2 w2.drew := kp (Below.refl _ _).drew
    refine wp_region_held (S := fun w' => (∀ b o, b < w2.heap.size → w'.cell? ⟨b, o, none⟩ = w2.cell? ⟨b, o, none⟩) ∧ Below w2.heap.size w2 w') (by kernel_rfl) ?_
    change wpAnyH _ _ _ _ _ _ _ _ w2.drew
    refine wpAnyH_take (i := 0) (v := ?_) rfl (by kernel_rfl) (by kernel_rfl) (by kernel_rfl) (fun _ _ _ h => h) (Or.inl ⟨by kernel_rfl, ?_⟩) (by assumption) ?_
    rotate_left 1
    · (intro w hSw; obtain ⟨hk1, hk2⟩ := hSw; go_simp <;> with_reducible rfl)
    simp only [Act.put, List.getElem_toArray, List.getElem_cons_zero, List.setIfInBounds_toArray, List.set_cons_zero, List.set_cons_succ]
    refine wpAnyH_take (i := 2) (v := ?_) rfl (by kernel_rfl) (by kernel_rfl) (by kernel_rfl) (fun _ _ _ h => h) (Or.inl ⟨by kernel_rfl, ?_⟩) (by assumption) ?_
    rotate_left 1
    · (intro w hSw; obtain ⟨hk1, hk2⟩ := hSw; go_simp <;> with_reducible rfl)
    simp only [Act.put, List.getElem_toArray, List.getElem_cons_zero, List.getElem_cons_succ, List.setIfInBounds_toArray, List.set_cons_zero, List.set_cons_succ]
    refine nextH2 (i := 1) (j := 3) (by kernel_rfl) rfl rfl (fun K hK => ?_) (fun K hK => ?_)
    · go_simp
      refine (cloneT_c q A c _ (hr2.bel (Below.refl _ _).drew) (by omega)).mono ?_
      rintro e_ w6 ⟨⟨A6, c6, rfl, own6⟩, hb6⟩
      try dsimp only
      have hB6 : Below w2.heap.size w2 w6 := bel_tr hSd.2 hSd.2.size hb6
      have hS6 := kp hB6
      refine hK _ _ hS6 ?_
      clear hK K hSd
      refine nextH (i := 3) (by kernel_rfl) rfl (fun K hK => ?_)
      go_simp
      obtain ⟨w7, hw7⟩ : ∃ w7, w6.alloc (.cells #[.string n, .int .i64 p, .int .i64 s, .int .i64 t] 37) = w7 := ⟨_, rfl⟩
      have hb7 : Below w6.heap.size w6 w7 := by rw [← hw7]; exact alloc_bel _ _
      have hnew : Blk w7 w6.heap.size 37 [.string n, .int .i64 p, .int .i64 s, .int .i64 t] := by rw [← hw7]; exact Blk.new w6 _ [_, _, _, _]
      have hB7 := bel_tr hB6 hB6.size hb7
      have hS7 := kp hB7
      rw [hw7]
      clear hw7
      try dsimp only
      refine hK _ _ hS7 ?_
      clear hK K
      have hba1 : w2.heap.size ≤ w2.heap.size := Nat.le_refl _
      have hba2 : w2.heap.size ≤ w7.heap.size := hB7.size
      have own7 : w7.ownsRow w2.heap.size 37 4 (.slice A6 q.length c6) q.length (its q) := ownsRow_bel own6 hb7
      refine nextH (i := 4) (by kernel_rfl) rfl (fun K hK => ?_)
      refine step_append_lies w7 (by rfl) _ _ _ (by rfl) w2.heap.size 37 i0 _ 4 40 Try.underlying22 hi iz0 iz1 iz2 rfl (by decide) _ q.length (its q) (by rfl) own7 ⟨_, 0, none⟩ 1 1 [.string n, .int .i64 p, .int .i64 s, .int .i64 t] (by rfl) rfl (World.news_of_block hnew) (by simp [Value.oneCell']) (by decide) (by unfold maxLen; omega) (by omega) (by omega) _ rfl ?_
      intro g8 cap8 w8 own8 hg8 _ hz8
      have hB8 : Below w2.heap.size w2 w8 := Below.grown hB7 hg8 (hB7).size (fun j hj => by have := own7.lt j hj; omega)
      have hS8 := kp hB8
      simp only [Act.put, List.getElem_toArray, List.getElem_cons_zero, List.getElem_cons_succ, List.setIfInBounds_toArray, List.set_cons_zero, List.set_cons_succ]
      refine hK _ _ hS8 ?_
      clear hK K
      refine nextH (i := 5) (by kernel_rfl) rfl (fun K hK => ?_)
      go_simp
      refine hK _ _ hS8 ?_
      clear hK K
      refine wpAnyH_done (by kernel_rfl) ?_ _
      have own9 : w8.ownsRow w.heap.size 37 4 (.slice (some ⟨g8, 0, none⟩) (q ++ [(n, p, s, t)]).length cap8) (q ++ [(n, p, s, t)]).length (its (q ++ [(n, p, s, t)])) := by
        rw [its_append, List.length_append, List.length_singleton]
        exact own_mono own8 (by omega)
      go_wp2
      go_meet
      exact ⟨g8, cap8, by rw [List.length_append, List.length_singleton], own9, bel_tr hB2 hB2s hB8⟩
    · go_simp
      obtain ⟨w6, hw6⟩ : ∃ w6, (w2.alloc (.cells #[.string n, .int .i64 p, .int .i64 s, .int .i64 t] 37)).drew = w6 := ⟨_, rfl⟩
      have hb6 : Below w2.heap.size w2 w6 := by rw [← hw6]; exact (alloc_bel _ _).drew
      have hnew0 : Blk w6 w2.heap.size 37 [.string n, .int .i64 p, .int .i64 s, .int .i64 t] := by rw [← hw6]; exact (Blk.new w2 _ [_, _, _, _]).drewN 1
      have hS6 := kp hb6
      rw [hw6]
      clear hw6
      try dsimp only
      refine hK _ _ hS6 ?_
      clear hK K hSd
      refine nextH (i := 1) (by kernel_rfl) rfl (fun K hK => ?_)
      go_simp
      refine (cloneT_c q A c w6 (hr2.bel hb6) (by omega)).mono ?_
      rintro e_ w7 ⟨⟨A6, c6, rfl, own7⟩, hb7⟩
      try dsimp only
      have hnew := hnew0.bel hb7
      have hB7 : Below w2.heap.size w2 w7 := bel_tr hb6 hb6.size hb7
      have hS7 := kp hB7
      refine hK _ _ hS7 ?_
      clear hK K
      have hba1 : w2.heap.size ≤ w6.heap.size := hb6.size
      have hba2 : w6.heap.size ≤ w7.heap.size := hb7.size
      refine nextH (i := 4) (by kernel_rfl) rfl (fun K hK => ?_)
      refine step_append_lies w7 (by rfl) _ _ _ (by rfl) w6.heap.size 37 i0 _ 4 40 Try.underlying22 hi iz0 iz1 iz2 rfl (by decide) _ q.length (its q) (by rfl) own7 ⟨_, 0, none⟩ 1 1 [.string n, .int .i64 p, .int .i64 s, .int .i64 t] (by rfl) rfl (World.news_of_block hnew) (by simp [Value.oneCell']) (by decide) (by unfold maxLen; omega) (by omega) (by omega) _ rfl ?_
      intro g8 cap8 w8 own8 hg8 _ hz8
      have hB8 : Below w2.heap.size w2 w8 := Below.grown hB7 hg8 (hB7).size (fun j hj => by have := own7.lt j hj; omega)
      have hS8 := kp hB8
      simp only [Act.put, List.getElem_toArray, List.getElem_cons_zero, List.getElem_cons_succ, List.setIfInBounds_toArray, List.set_cons_zero, List.set_cons_succ]
      refine hK _ _ hS8 ?_
      clear hK K
      refine nextH (i := 5) (by kernel_rfl) rfl (fun K hK => ?_)
      go_simp
      refine hK _ _ hS8 ?_
      clear hK K
      refine wpAnyH_done (by kernel_rfl) ?_ _
      have own9 : w8.ownsRow w.heap.size 37 4 (.slice (some ⟨g8, 0, none⟩) (q ++ [(n, p, s, t)]).length cap8) (q ++ [(n, p, s, t)]).length (its (q ++ [(n, p, s, t)])) := by
        rw [its_append, List.length_append, List.length_singleton]
        exact own_mono own8 (by omega)
      go_wp2
      go_meet
      exact ⟨g8, cap8, by rw [List.length_append, List.length_singleton], own9, bel_tr hB2 hB2s hB8⟩
  obtain ⟨g, cap, rfl, own, hBw⟩ := hcut
  have hlen1 : (q ++ [(n, p, s, t)]).length ≤ 20 := by have := hok.len; rw [List.length_append, List.length_singleton]; omega
  have hsm := small_all hok.que hok.item
  have HP : Hid (dropF cp (q ++ [(n, p, s, t)]).length (q ++ [(n, p, s, t)]) [] = putL q (n, p, s, t) cp) := by show _ = _; unfold putL; rw [List.length_append, List.length_singleton]
  have hc0 := hok.c0
  have hc1 := hok.c1
  clear hok HR hX2 hr2 d0 d1 d2 d3 hB2 hz2 hn
  obtain ⟨PL, hPL⟩ : ∃ PL, putL q (n, p, s, t) cp = PL := ⟨_, rfl⟩
  rw [hPL] at HP
  have HPL := hide hPL
  clear hPL
  generalize q ++ [(n, p, s, t)] = q1 at own hlen1 hsm HP ⊢
  go_wp2
  go_loopw [10, 11] (fun a v wr => ∃ (q' : List IT) (nm : List ByteArray) (g' cap' : Nat) (B' : Option Addr) (d' : Nat), a = .slice (some ⟨g', 0, none⟩) q'.length cap' ∧ v = .slice B' nm.length d' ∧ wr.ownsRow w.heap.size 37 4 (.slice (some ⟨g', 0, none⟩) q'.length cap') q'.length (its q') ∧ wr.ownsRow w.heap.size 9 1 (.slice B' nm.length d') nm.length (txs nm) ∧ Below w.heap.size w wr ∧ Hid (q'.length + nm.length ≤ 20 ∧ SmallS q' ∧ dropF cp q'.length q' nm = PL)) (fun a _ _ => slcLen a)
  case atStart => exact ⟨q1, [], g, cap, none, 0, rfl, rfl, own, World.ownsRow_nil _ _ _ _, hBw, by simpa using hlen1, hsm, HP.out⟩
  case round =>
    obtain ⟨q', nm, g', cap', B', d', rfl, rfl, own1, own2, hB, hI⟩ := hrel
    clear own hBw hlen1 hsm HP
    obtain ⟨hle, hsm, hd⟩ := hI.out
    clear hI
    have hBs := hB.size
    have hrd := Rd.of_own own1
    have HSZ := hide (sizeOf_c q' _ cap' wr hrd (by omega) hsm)
    by_cases hgo : cp < sizeL q'
    · obtain ⟨hp, heq⟩ := dropF_go (n := nm) hc0 hgo
      obtain ⟨hlo, hlo2, hlt⟩ := lastO_at hp
      have HD := hide (heq.symm.trans hd)
      have hel : (q'.eraseIdx (lastO q')).length = q'.length - 1 := List.length_eraseIdx_of_lt hlt
      have HSM := hide (sub_small (List.eraseIdx_sublist q' (lastO q')) hsm)
      rw [show (q'.getD (lastO q') it0).1 = q'[lastO q'].1 by rw [List.getD, List.getElem?_eq_getElem hlt]; rfl] at HD
      clear heq
      generalize lastO q' = i at hlt hlo2 hel HD HSM
      have hgo' : decide (cp < sizeL q') = true := decide_eq_true hgo
      have HO := hide (fun W (h : Rd W (some ⟨g', 0, none⟩) (its q')) => orderOf_c q' (by omega) _ cap' W h)
      obtain ⟨m, hm⟩ : ∃ m, q'.length - 1 = m := ⟨_, rfl⟩
      simp only [hm] at hlo hlo2
      have hmq : m < (ordI q').length := by rw [ordI_len]; omega
      have hoi : (ordI q')[m] = (i : Int) := by rw [(ordI_at q' hmq).2.1, hlo2]
      have k1 : (0 : Int) ≤ (q'.length : Int) - 1 := by omega
      have k2 : (q'.length : Int) - 1 < (q'.length : Int) := by omega
      have k3 : ((q'.length : Int) - 1).toNat = m := by omega
      have k4 : IntKind.i64.wrap ((q'.length : Int) - 1) = (q'.length : Int) - 1 := by rw [IntKind.wrap_i64]; omega
      have k5 : IntKind.i64.wrap ((i : Int) + 1) = (i : Int) + 1 := by rw [IntKind.wrap_i64]; omega
      have k6 : (i : Int) < (q'.length : Int) := by omega
      have HEL := hide hel
      have HM := hide hm
      clear hel hm hlo hlo2 hd hi iz0 iz1 iz2
      go_upto_region 8 with (first
        | (go_at_call 44; refine HSZ.out.mono ?_; rintro e_ w3 ⟨rfl, hb3⟩; have hrd3 := hrd.bel hb3)
        | (go_at_call 37; refine (HO.out _ hrd3).mono ?_; rintro e_ w4 ⟨⟨A4, c4, rfl, hx4, hc4⟩, hb4⟩))
      have hb34 : Below wr.heap.size wr w4 := bel_tr hb3 hb3.size hb4
      have own3 := ownsRow_bel own1 hb34
      have own4 := ownsRow_bel own2 hb34
      have hB4 := bel_tr hB hBs hb34
      have hrd4 := hrd.bel hb34
      obtain ⟨b4, o4, rfl, hb4', x0⟩ := hx4.int_at hmq
      rw [hoi] at x0
      obtain ⟨_, _, e', hbg, y0, _⟩ := hrd4.it_at hlt
      injection e' with e'
      injection e' with eb eo
      subst eb eo
      rw [Nat.zero_add] at y0
      generalize q'[i].1 = nam at y0 HD
      clear hb3 hb4 hb34 hrd hrd3 hrd4 own1 own2 HSZ HO hx4 hoi hmq
      go_upto_region 10 with (at_builtin; refine wpList_append_own _ rfl _ _ 38 rfl w.heap.size 9 j0 _ 1 16 Try.underlying38 hj jz0 jz1 jz2 rfl (by decide) _ nm.length (txs nm) rfl (own4.alloc _) ⟨w4.heap.size, 0, none⟩ 1 1 [.string nam] rfl rfl (World.news_of_block (heap_alloc_new w4 _)) (by simp [Value.oneCell']) (by unfold maxLen; omega) (by omega) (by have := hB4.size; simp; omega) ?_; intro v8 w8 own8 hg8 _)
      obtain ⟨B8, d8, rfl⟩ := ownsRow_slice own8
      have own5 := (ownsRow_bel own3 (alloc_bel w4 (.cells #[.string nam] 9))).kept hg8 (by
        rcases own_ne (ownsRow_bel own3 (alloc_bel w4 (.cells #[.string nam] 9))) (own4.alloc (.cells #[.string nam] 9)) (by decide) with h | h
        · exact .inl h
        · exact .inr h)
      have hB8 : Below w.heap.size w w8 := (bel_alloc hB4 hB4.size _).grown hg8 (by have := hB4.size; simp; omega) (fun j hj => (own4.lt j hj).1)
      have HDL := hide (deleteT_c w.heap.size q' _ cap' i w8 own5 hlt (by omega))
      have hne8 : (Value.slice B8 (nm.length + 1) d8).ownBlock = none ∨ (Value.slice B8 (nm.length + 1) d8).ownBlock ≠ some g' := own_ne own8 own5 (by decide)
      have hzg : g' < w8.heap.size := ((own5.lt g' rfl).2)
      have hbg' : w.heap.size ≤ g' := ((own5.lt g' rfl).1)
      clear own3 own4 hB4 hg8 own5
      go_wp2_with (first | (go_at_call 45; refine HDL.out.mono ?_; rintro e_ w9 ⟨g9, hg9, hb9, rfl, own9, hgr9⟩))
      injection hg9 with hg9
      injection hg9 with hg9 _
      subst hg9
      have own8' := own8.kept hgr9 hne8
      have hB9 : Below w.heap.size w w9 := hB8.grown hgr9 hB8.size (fun j hj => by injection hj with hj; omega)
      have hxx : txs nm ++ [.string nam] = txs (nm ++ [nam]) := by rw [txs_append]; rfl
      rw [hxx] at own8'
      go_roundw
      case rel =>
        refine ⟨q'.eraseIdx i, nm ++ [nam], g', cap', B8, d8, rfl, by rw [List.length_append, List.length_singleton], own9, by rw [List.length_append, List.length_singleton]; exact own8', hB9, ?_⟩
        refine ⟨?_, HSM.out, HD.out⟩
        have h1 := HEL.out
        have h2 := HM.out
        rw [List.length_append, List.length_singleton]
        omega
      case measure =>
        have h1 := HEL.out
        have h2 := HM.out
        simp only [slcLen]
        omega
    · have hstop := dropF_stop (n := nm) q'.length hgo
      have HV := hide (hstop.symm.trans hd)
      have hgo' : decide (cp < sizeL q') = false := decide_eq_false hgo
      clear hstop hd
      go_wp2_with (first | (go_at_call 44; refine HSZ.out.mono ?_; rintro e_ w3 ⟨rfl, hb3⟩))
      go_ret3
      rw [HPL.out, ← HV.out]
      exact ⟨⟨_, _, _, _, rfl, (Rd.of_own own1).bel hb3, (Rd.of_own own2).bel hb3⟩, bel_tr hB hBs hb3⟩
end Go.Proofs.Ytohdjhdkmdhhcaa
