/- Contracts: the point of a frequency, with its error. -/
import Derived.Test.YtdeehodekilaiaaU1
set_option linter.unusedSimpArgs false
set_option linter.unusedVariables false
namespace Go.Proofs.Ytdeehodekilaiaa
open Go.RowKit
set_option maxRecDepth 100000

/-- What lies in memory while TraceOf goes through its frequencies. -/
structure TrI (base : Int) (A : Option Addr) (c : Nat) (l : List G) (F : Option Addr) (fc : Nat) (fs : List Int) (w0 : World) (p Q : Nat) (k : Nat) (W : World) : Prop where
  b1 : Blk W p 24 [.int .i64 base, .slice A l.length c]
  b2 : Blk W (Q + 1) 28 [.slice (some ⟨Q, 0, none⟩) fs.length fs.length]
  b3 : Blk W (p + 1) 25 [.slice F fs.length fc]
  b4 : Blk W (p + 2) 30 [.slice none 0 0, .int .i64 0, .int .i64 0]
  bq : Blk W Q 55 (ps (mixL base l fs k))
  ra : Rd W A (gs l)
  rf : Rd W F (ints fs)
  bel : Below p w0 W
  lt : p + 2 < Q
theorem TrI.next {base : Int} {A : Option Addr} {c : Nat} {l : List G} {F : Option Addr} {fc : Nat} {fs : List Int} {w0 : World} {p Q k : Nat} {W W' : World} (h : TrI base A c l F fc fs w0 p Q k W) (hb : Below W.heap.size W W') : TrI base A c l F fc fs w0 p Q k W' :=
  ⟨h.b1.bel hb, h.b2.bel hb, h.b3.bel hb, h.b4.bel hb, h.bq.bel hb, h.ra.bel hb, h.rf.bel hb, h.bel.trans (hb.mono (by have := h.b4.lt; omega)), h.lt⟩
theorem rd_far {W : World} {A : Option Addr} {xs : List Value} {Q i : Nat} (h : Rd W A xs) (hA : xs ≠ [] → ∀ b off, A = some ⟨b, off, none⟩ → b ≠ Q) (v : Value) : Rd (W.setCell ⟨Q, i, none⟩ v) A xs := by
  intro hx
  obtain ⟨b, off, rfl, hlt, hc⟩ := h hx
  refine ⟨b, off, rfl, by simpa [World.setCell] using hlt, fun j u hu => ?_⟩
  have hn : b ≠ Q := hA hx b off rfl
  have := hc j u hu
  unfold World.cell? at this ⊢
  rw [Below.heap_setCell W ⟨Q, i, none⟩ v b (by show b ≠ Q; exact hn)]
  exact this
theorem TrI.store {base : Int} {A : Option Addr} {c : Nat} {l : List G} {F : Option Addr} {fc : Nat} {fs : List Int} {w0 : World} {p Q k : Nat} {W : World} (h : TrI base A c l F fc fs w0 p Q k W) (hk : k < fs.length)
    (hA : gs l ≠ [] → ∀ b off, A = some ⟨b, off, none⟩ → b ≠ Q) (hF : ints fs ≠ [] → ∀ b off, F = some ⟨b, off, none⟩ → b ≠ Q) {f x y : Int} (hf : fs.getD k 0 = f) (hx : (virtR base l f).1 = (x, y)) :
    TrI base A c l F fc fs w0 p Q (k + 1) (((W.setCell ⟨Q, k * 3, none⟩ (.int .i64 f)).setCell ⟨Q, k * 3 + 1, none⟩ (.int .i64 x)).setCell ⟨Q, k * 3 + 2, none⟩ (.int .i64 y)) := by
  have hlt := h.lt
  have e := h.bq.setP (k := k) (p := trfP base l f) (by simpa using hk)
  rw [mixL_set base l fs k f hf] at e
  unfold trfP at e
  rw [hx] at e
  dsimp only at e
  have far : ∀ {g : Nat} {t : TypeId} {cs : List Value}, Blk W g t cs → g ≠ Q → Blk (((W.setCell ⟨Q, k * 3, none⟩ (.int .i64 f)).setCell ⟨Q, k * 3 + 1, none⟩ (.int .i64 x)).setCell ⟨Q, k * 3 + 2, none⟩ (.int .i64 y)) g t cs := fun hb hg => ((hb.far (p := ⟨Q, _, none⟩) hg _).far (p := ⟨Q, _, none⟩) hg _).far (p := ⟨Q, _, none⟩) hg _
  exact ⟨far h.b1 (by omega), far h.b2 (by omega), far h.b3 (by omega), far h.b4 (by omega), e, rd_far (rd_far (rd_far h.ra hA _) hA _) hA _, rd_far (rd_far (rd_far h.rf hF _) hF _) hF _,
    ((h.bel.setCell (by show p ≤ Q; omega) _).setCell (by show p ≤ Q; omega) _).setCell (by show p ≤ Q; omega) _, hlt⟩

set_option maxHeartbeats 2000000 in
theorem traceOf1_zero (base : Int) (A : Option Addr) (c : Nat) (l : List G) (F : Option Addr) (fc : Nat) (fs : List Int) (w0 : World) (p Q : Nat) (f : Int) (W : World) (hI : TrI base A c l F fc fs w0 p Q 0 W) (hl : l.length ≤ 1000) (hk : 0 < fs.length) (hfs : fs.length ≤ 1000) (hf : fs.getD 0 0 = f)
    (hA : gs l ≠ [] → ∀ b off, A = some ⟨b, off, none⟩ → b ≠ Q) (hF : ints fs ≠ [] → ∀ b off, F = some ⟨b, off, none⟩ → b ≠ Q) :
    Calls Try.prog 37 (#[.int .i64 (0 : Int), .int .i64 f] ++ #[.pointer (some ⟨p, 0, none⟩), .pointer (some ⟨Q + 1, 0, none⟩), .pointer (some ⟨p + 1, 0, none⟩)]) W fun r w' => r = .returned (.int .i64 (trfE base l fs 0 f)) ∧ TrI base A c l F fc fs w0 p Q 1 w' := by
  have HR : Hid (trfE base l fs 0 f = firstE [freqE f, errIf false 9, (virtR base l f).2, errIf (decide (20000 < (virtR base l f).1.2)) 22]) := rfl
  rw [show (#[.int .i64 (0 : Int), .int .i64 f] ++ #[.pointer (some ⟨p, 0, none⟩), .pointer (some ⟨Q + 1, 0, none⟩), .pointer (some ⟨p + 1, 0, none⟩)] : Array Value) = #[.int .i64 (0 : Int), .int .i64 f, .pointer (some ⟨p, 0, none⟩), .pointer (some ⟨Q + 1, 0, none⟩), .pointer (some ⟨p + 1, 0, none⟩)] from rfl]
  obtain ⟨⟨x, y⟩, hxy⟩ : ∃ g, (virtR base l f).1 = g := ⟨_, rfl⟩
  have HV : Hid (∀ W, Rd W A (gs l) → Calls Try.prog 17 #[.agg #[.int .i64 base, .slice A l.length c], .int .i64 f] W fun r w' => r = .returned (.tuple #[.agg #[.int .i64 x, .int .i64 y], .int .i64 (virtR base l f).2]) ∧ Below W.heap.size W w') := fun W h => by
    have := virtualAt_c base f A c l W h hl
    rw [hxy] at this
    exact this
  have HXY := hide hxy
  clear hxy
  generalize (virtR base l f).2 = ve at HV HR
  have hK1 := hI.b1
  have hK2 := hI.b2
  have hK3 := hI.b3
  have hra := hI.ra
  have c0 := hK1.cell 0; have c1 := hK1.cell 1; simp only [List.getElem?_cons_zero, List.getElem?_cons_succ] at c0 c1
  have c2 := hK2.cell 0
  have c3 := hK3.cell 0
  simp only [List.getElem?_cons_zero] at c2 c3
  have z1 := hK1.lt
  have z2 := hK2.lt
  have z3 := hK3.lt
  have zQ := hI.lt
  go_enter Try.func37, Try.ntmps37
  go_upto_region 2 with (first | (go_at_call 17; refine (HV.out _ hra).mono ?_; rintro e w1 ⟨rfl, hb1⟩))
  obtain ⟨g, hg⟩ : ∃ g, w1.heap.size = g := ⟨_, rfl⟩
  have hbA : Below w1.heap.size w1 (w1.alloc (.cells #[.int .i64 x, .int .i64 y] 51)) := alloc_bel _ _
  have hI2 := (hI.next hb1).next hbA
  have hG2 : Blk (w1.alloc (.cells #[.int .i64 x, .int .i64 y] 51)) g 51 [.int .i64 x, .int .i64 y] := by rw [← hg]; exact Blk.new w1 _ [_, _]
  clear hbA c0 c1 c2 c3 hK1 hK2 hK3 hra
  have hgQ : Q + 1 < g := by have := (hI.next hb1).b2.lt; omega
  rw [hg]
  generalize (w1.alloc (.cells #[.int .i64 x, .int .i64 y] 51)) = W2 at hI2 hG2 ⊢
  clear hb1 hg z1 z2 z3 hI
  have hK2 := hI2.b2
  have hK3 := hI2.b3
  have c2 := hK2.cell 0
  simp only [List.getElem?_cons_zero] at c2
  have g0 := hG2.cell 0; have g1 := hG2.cell 1; simp only [List.getElem?_cons_zero, List.getElem?_cons_succ] at g0 g1
  have z2 := hK2.lt
  have z4 := hG2.lt
  obtain ⟨q0, q1, q2⟩ := ps_at (l := mixL base l fs 0) (k := 0) (by simpa using hk)
  have t0 := (hI2.bq.cell _).trans q0
  have t1 := (hI2.bq.cell _).trans q1
  have t2 := (hI2.bq.cell _).trans q2
  have f0 := hI2.bq.frozen (0 * 3)
  have f1 := hI2.bq.frozen (0 * 3 + 1)
  have f2 := hI2.bq.frozen (0 * 3 + 2)
  generalize (mixL base l fs 0)[0]'(by simpa using hk) = pt at q0 q1 q2 t0 t1 t2
  clear q0 q1 q2
  have zq := hI2.bq.lt
  have hS := hI2.store hk hA hF hf HXY.out
  try simp only [Nat.zero_mul, Nat.zero_add] at t0 t1 t2 f0 f1 f2 hS
  go_upto_region 3 with fail
  have hG3 := ((hG2.far (p := ⟨Q, 0 * 3, none⟩) (by show g ≠ Q; omega) (.int .i64 f)).far (p := ⟨Q, 0 * 3 + 1, none⟩) (by show g ≠ Q; omega) (.int .i64 x)).far (p := ⟨Q, 0 * 3 + 2, none⟩) (by show g ≠ Q; omega) (.int .i64 y)
  try simp only [Nat.zero_mul, Nat.zero_add] at hG3
  generalize ((World.setCell _ _ (.int .i64 f)).setCell _ (.int .i64 x)).setCell _ (.int .i64 y) = W at hS hG3 ⊢
  clear t0 t1 t2 f0 f1 f2 g0 g1 hG2 c2 hK2 hK3 hI2 z2 z4 zq
  have y1 := hG3.cell 1
  simp only [List.getElem?_cons_zero, List.getElem?_cons_succ] at y1
  have z1 := hG3.lt
  have hK3 := hS.b3
  have c3 := hK3.cell 0
  simp only [List.getElem?_cons_zero] at c3
  have z3 := hK3.lt
  have HR2 : Hid (trfE base l fs 0 f = firstE [freqE f, errIf false 9, ve, errIf (decide (20000 < y)) 22]) := by show _ = _; rw [HR.out, HXY.out]
  clear HR HXY
  refine wp_region_held (S := fun w' => (∀ b o, b < W.heap.size → w'.cell? ⟨b, o, none⟩ = W.cell? ⟨b, o, none⟩) ∧ Below W.heap.size W w') (by kernel_rfl) ?_
  have hSd : (∀ b o, b < W.heap.size → W.drew.cell? ⟨b, o, none⟩ = W.cell? ⟨b, o, none⟩) ∧ Below W.heap.size W W.drew := kp (Below.refl _ _).drew
  change wpAnyH _ _ _ _ _ _ _ _ W.drew
  refine wpAnyH_take (i := 0) (v := ?_) rfl (by kernel_rfl) (by kernel_rfl) (by kernel_rfl) (fun _ _ _ h => h) (Or.inl ⟨by kernel_rfl, ?_⟩) (by assumption) ?_
  rotate_left 1
  · (intro w hSw; obtain ⟨hk1, hk2⟩ := hSw; go_simp <;> with_reducible rfl)
  simp only [Act.put, List.getElem_toArray, List.getElem_cons_zero, List.setIfInBounds_toArray, List.set_cons_zero, List.set_cons_succ]
  refine wpAnyH_take (i := 2) (v := ?_) rfl (by kernel_rfl) (by kernel_rfl) (by kernel_rfl) (fun _ _ _ h => h) (Or.inl ⟨by kernel_rfl, ?_⟩) (by assumption) ?_
  rotate_left 1
  · (intro w hSw; obtain ⟨hk1, hk2⟩ := hSw; go_simp <;> with_reducible rfl)
  simp only [Act.put, List.getElem_toArray, List.getElem_cons_zero, List.getElem_cons_succ, List.setIfInBounds_toArray, List.set_cons_zero, List.set_cons_succ]
  refine wpAnyH_take (i := 3) (v := ?_) rfl (by kernel_rfl) (by kernel_rfl) (by kernel_rfl) (fun _ _ _ h => h) (Or.inl ⟨by kernel_rfl, ?_⟩) (by assumption) ?_
  rotate_left 1
  · (intro w hSw; obtain ⟨hk1, hk2⟩ := hSw; go_simp <;> with_reducible rfl)
  simp only [Act.put, List.getElem_toArray, List.getElem_cons_zero, List.getElem_cons_succ, List.setIfInBounds_toArray, List.set_cons_zero, List.set_cons_succ]
  refine wpAnyH_take (i := 14) (v := ?_) rfl (by kernel_rfl) (by kernel_rfl) (by kernel_rfl) (fun _ _ _ h => h) (Or.inl ⟨by kernel_rfl, ?_⟩) (by assumption) ?_
  rotate_left 1
  · (intro w hSw; obtain ⟨hk1, hk2⟩ := hSw; go_simp <;> with_reducible rfl)
  simp only [Act.put, List.getElem_toArray, List.getElem_cons_zero, List.getElem_cons_succ, List.setIfInBounds_toArray, List.set_cons_zero, List.set_cons_succ]
  refine wpAnyH_take (i := 15) (v := ?_) rfl (by kernel_rfl) (by kernel_rfl) (by kernel_rfl) (fun _ _ _ h => h) (Or.inl ⟨by kernel_rfl, ?_⟩) (by assumption) ?_
  rotate_left 1
  · (intro w hSw; obtain ⟨hk1, hk2⟩ := hSw; go_simp <;> with_reducible rfl)
  simp only [Act.put, List.getElem_toArray, List.getElem_cons_zero, List.getElem_cons_succ, List.setIfInBounds_toArray, List.set_cons_zero, List.set_cons_succ]
  refine wpAnyH_take (i := 16) (v := ?_) rfl (by kernel_rfl) (by kernel_rfl) (by kernel_rfl) (fun _ _ _ h => h) (Or.inl ⟨by kernel_rfl, ?_⟩) (by assumption) ?_
  rotate_left 1
  · (intro w hSw; obtain ⟨hk1, hk2⟩ := hSw; go_simp <;> with_reducible rfl)
  simp only [Act.put, List.getElem_toArray, List.getElem_cons_zero, List.getElem_cons_succ, List.setIfInBounds_toArray, List.set_cons_zero, List.set_cons_succ]
  refine wpAnyH_take (i := 17) (v := ?_) rfl (by kernel_rfl) (by kernel_rfl) (by kernel_rfl) (fun _ _ _ h => h) (Or.inl ⟨by kernel_rfl, ?_⟩) (by assumption) ?_
  rotate_left 1
  · (intro w hSw; obtain ⟨hk1, hk2⟩ := hSw; go_simp <;> with_reducible rfl)
  simp only [Act.put, List.getElem_toArray, List.getElem_cons_zero, List.getElem_cons_succ, List.setIfInBounds_toArray, List.set_cons_zero, List.set_cons_succ]
  refine nextH (i := 1) (by kernel_rfl) rfl (fun K hK => ?_)
  go_simp
  refine (frequencyError_c _ _).mono ?_
  rintro e w1 ⟨rfl, rfl⟩
  try dsimp only
  refine hK _ _ hSd ?_
  clear hK K
  refine wpAnyH_take (i := 4) (v := ?_) rfl (by kernel_rfl) (by kernel_rfl) (by kernel_rfl) (fun _ _ _ h => h) (Or.inl ⟨by kernel_rfl, ?_⟩) (by assumption) ?_
  rotate_left 1
  · (intro w hSw; obtain ⟨hk1, hk2⟩ := hSw; go_simp <;> with_reducible rfl)
  simp only [Act.put, List.getElem_toArray, List.getElem_cons_zero, List.getElem_cons_succ, List.setIfInBounds_toArray, List.set_cons_zero, List.set_cons_succ]
  refine wpAnyH_take (i := 5) (v := undef) rfl (by kernel_rfl) (by kernel_rfl) (by kernel_rfl) (fun _ _ _ h => h) (Or.inr ⟨by kernel_rfl, rfl⟩) (by assumption) ?_
  simp only [Act.put, List.getElem_toArray, List.getElem_cons_zero, List.getElem_cons_succ, List.setIfInBounds_toArray, List.set_cons_zero, List.set_cons_succ]
  refine wpAnyH_take (i := 6) (v := undef) rfl (by kernel_rfl) (by kernel_rfl) (by kernel_rfl) (fun _ _ _ h => h) (Or.inr ⟨by kernel_rfl, rfl⟩) (by assumption) ?_
  simp only [Act.put, List.getElem_toArray, List.getElem_cons_zero, List.getElem_cons_succ, List.setIfInBounds_toArray, List.set_cons_zero, List.set_cons_succ]
  refine wpAnyH_take (i := 7) (v := undef) rfl (by kernel_rfl) (by kernel_rfl) (by kernel_rfl) (fun _ _ _ h => h) (Or.inr ⟨by kernel_rfl, rfl⟩) (by assumption) ?_
  simp only [Act.put, List.getElem_toArray, List.getElem_cons_zero, List.getElem_cons_succ, List.setIfInBounds_toArray, List.set_cons_zero, List.set_cons_succ]
  refine wpAnyH_take (i := 8) (v := undef) rfl (by kernel_rfl) (by kernel_rfl) (by kernel_rfl) (fun _ _ _ h => h) (Or.inr ⟨by kernel_rfl, rfl⟩) (by assumption) ?_
  simp only [Act.put, List.getElem_toArray, List.getElem_cons_zero, List.getElem_cons_succ, List.setIfInBounds_toArray, List.set_cons_zero, List.set_cons_succ]
  refine wpAnyH_take (i := 9) (v := undef) rfl (by kernel_rfl) (by kernel_rfl) (by kernel_rfl) (fun _ _ _ h => h) (Or.inr ⟨by kernel_rfl, rfl⟩) (by assumption) ?_
  simp only [Act.put, List.getElem_toArray, List.getElem_cons_zero, List.getElem_cons_succ, List.setIfInBounds_toArray, List.set_cons_zero, List.set_cons_succ]
  refine wpAnyH_take (i := 10) (v := undef) rfl (by kernel_rfl) (by kernel_rfl) (by kernel_rfl) (fun _ _ _ h => h) (Or.inr ⟨by kernel_rfl, rfl⟩) (by assumption) ?_
  simp only [Act.put, List.getElem_toArray, List.getElem_cons_zero, List.getElem_cons_succ, List.setIfInBounds_toArray, List.set_cons_zero, List.set_cons_succ]
  refine wpAnyH_take (i := 11) (v := undef) rfl (by kernel_rfl) (by kernel_rfl) (by kernel_rfl) (fun _ _ _ h => h) (Or.inr ⟨by kernel_rfl, rfl⟩) (by assumption) ?_
  simp only [Act.put, List.getElem_toArray, List.getElem_cons_zero, List.getElem_cons_succ, List.setIfInBounds_toArray, List.set_cons_zero, List.set_cons_succ]
  refine wpAnyH_take (i := 12) (v := ?_) rfl (by kernel_rfl) (by kernel_rfl) (by kernel_rfl) (fun _ _ _ h => h) (Or.inl ⟨by kernel_rfl, ?_⟩) (by assumption) ?_
  rotate_left 1
  · (intro w hSw; obtain ⟨hk1, hk2⟩ := hSw; go_simp <;> with_reducible rfl)
  simp only [Act.put, List.getElem_toArray, List.getElem_cons_zero, List.getElem_cons_succ, List.setIfInBounds_toArray, List.set_cons_zero, List.set_cons_succ]
  refine nextH (i := 13) (by kernel_rfl) rfl (fun K hK => ?_)
  go_simp
  refine (errorIf_c _ _ _).mono ?_
  rintro e w13 ⟨rfl, rfl⟩
  try dsimp only
  refine hK _ _ hSd ?_
  clear hK K
  refine nextH (i := 18) (by kernel_rfl) rfl (fun K hK => ?_)
  go_simp
  refine (errorIf_c _ _ _).mono ?_
  rintro e w18 ⟨rfl, rfl⟩
  try dsimp only
  refine hK _ _ hSd ?_
  clear hK K
  have hbE := bel_alloc (Below.refl W.heap.size W) (Nat.le_refl _) (.cells #[.int .i64 (freqE f), .int .i64 (errIf false 9), .int .i64 ve, .int .i64 (errIf (decide (20000 < y)) 22)] 31)
  refine nextH (i := 19) (by kernel_rfl) rfl (fun K hK => ?_)
  go_simp
  have hS1 := kp (bel_alloc hSd.2 hSd.2.size (.cells #[.int .i64 (freqE f), .int .i64 (errIf false 9), .int .i64 ve, .int .i64 (errIf (decide (20000 < y)) 22)] 31))
  try dsimp only
  refine hK _ _ hS1 ?_
  clear hK K
  clear hSd
  have hSd := hS1
  clear hS1
  refine nextH (i := 20) (by kernel_rfl) rfl (fun K hK => ?_)
  go_simp
  refine (firstError_4D _ _ _ _ _).mono ?_
  rintro e w20 ⟨rfl, rfl⟩
  try dsimp only
  refine hK _ _ hSd ?_
  clear hK K
  refine nextH (i := 21) (by kernel_rfl) rfl (fun K hK => ?_)
  go_simp
  refine hK _ _ hSd ?_
  clear hK K
  refine wpAnyH_done (by kernel_rfl) ?_ _
  go_wp2
  go_ret
  exact ⟨by rw [HR2.out]; rfl, hS.next hbE.drew⟩
end Go.Proofs.Ytdeehodekilaiaa
