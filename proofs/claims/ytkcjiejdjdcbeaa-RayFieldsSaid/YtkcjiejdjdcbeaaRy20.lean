/- Contracts: whether a slab reflects with a field; whether some slab does. -/
import Derived.Test.YtkcjiejdjdcbeaaRy19
set_option linter.unusedSimpArgs false
set_option linter.unusedVariables false
set_option linter.unusedSimpArgs false
set_option linter.unusedVariables false
namespace Go.Proofs.Ytkcjiejdjdcbeaa
open Go.RowKit
set_option maxRecDepth 100000



theorem idxW_bd {sq f pull : Int} (h1 : 1 ≤ f) (h2 : f ≤ 3000) (h3 : 0 ≤ sq) (h4 : sq ≤ 9000000) (p1 : -30000 ≤ pull) (p2 : pull ≤ 30000) (p3 : pull < 100 * f) : 1 ≤ (idxW sq f pull).2 ∧ (idxW sq f pull).2 ≤ 990000000 ∧ -990000000 ≤ (idxW sq f pull).1 ∧ (idxW sq f pull).1 ≤ 990000000 := by
  have a := all_bd h1 h2 p1 p2 p3
  unfold idxW
  generalize f * (100 * f - pull) = T at a ⊢
  have c := redQ_den (T - 100 * sq) T (by omega)
  have e := redQ_num (T - 100 * sq) T (by omega)
  omega
/-- Whether a slab reflects a ray with a component of a field. -/
def hitW (f n d gy cp : Int) (g : G) : Bool := decide ((idxW g.2 f (cp * gy)).1 * d ≤ n * (idxW g.2 f (cp * gy)).2)
set_option maxHeartbeats 4000000 in
theorem reflects11_c (t sq f n d gy lo hi cp : Int) (s m e : Nat) (w : World) (k1 : Blk w s 123 [.int .i64 f, .int .i64 n, .int .i64 d]) (k2 : Blk w m 3 [.int .i64 cp]) (k3 : Blk w e 121 [.int .i64 gy, .int .i64 lo, .int .i64 hi])
    (h1 : 1 ≤ f) (h2 : f ≤ 3000) (h3 : 0 ≤ sq) (h4 : sq ≤ 9000000) (n0 : 0 ≤ n) (n1 : n ≤ 100) (d0 : 1 ≤ d) (d1 : d ≤ 100) (y0 : 0 ≤ gy) (y1 : gy ≤ 300) (y2 : gy < f) (c0 : -100 ≤ cp) (c1 : cp ≤ 100) :
    Calls Try.prog 139 (#[.agg #[.int .i64 t, .int .i64 sq]] ++ #[.pointer (some ⟨s, 0, none⟩), .pointer (some ⟨m, 0, none⟩), .pointer (some ⟨e, 0, none⟩)]) w fun r w' => r = .returned (.bool (hitW f n d gy cp (t, sq))) ∧ Below w.heap.size w w' := by
  rw [show (#[.agg #[.int .i64 t, .int .i64 sq]] ++ #[.pointer (some ⟨s, 0, none⟩), .pointer (some ⟨m, 0, none⟩), .pointer (some ⟨e, 0, none⟩)] : Array Value) = #[.agg #[.int .i64 t, .int .i64 sq], .pointer (some ⟨s, 0, none⟩), .pointer (some ⟨m, 0, none⟩), .pointer (some ⟨e, 0, none⟩)] from rfl]
  have mp := mul_in c0 c1 (show -300 ≤ gy by omega) y1
  have mq : cp * gy < 100 * f := by
    have := Int.mul_le_mul_of_nonneg_right c1 y0
    omega
  have HI := hide (fun W => indexWith_c sq f (cp * gy) W h1 h2 h3 h4 (by omega) (by omega) mq)
  have hb := idxW_bd (sq := sq) h1 h2 h3 h4 (show -30000 ≤ cp * gy by omega) (by omega) mq
  have HR : Hid (hitW f n d gy cp (t, sq) = decide ((idxW sq f (cp * gy)).1 * d ≤ n * (idxW sq f (cp * gy)).2)) := rfl
  generalize idxW sq f (cp * gy) = z at HI hb HR
  obtain ⟨a, b⟩ := z
  dsimp only at HI hb HR
  have HM := hide (fun W => isAtMost_c a b n d W (by omega) (by omega) (by omega) (by omega) (by omega) (by omega) (by omega) (by omega))
  rw [← HR.out] at HM
  generalize hitW f n d gy cp (t, sq) = v at HM ⊢
  have wm : IntKind.i64.wrap (cp * gy) = cp * gy := by simp (disch := omega) only [IntWalk.i64_in]
  obtain ⟨W, hW⟩ : ∃ W, w.alloc (.cells #[.int .i64 t, .int .i64 sq] 79) = W := ⟨_, rfl⟩
  have hB0 : Below w.heap.size w W := by rw [← hW]; exact alloc_bel _ _
  have hY : Blk W w.heap.size 79 [.int .i64 t, .int .i64 sq] := by rw [← hW]; exact Blk.new w _ [_, _]
  have b1 := k1.bel hB0
  have b2 := k2.bel hB0
  have b3 := k3.bel hB0
  have HW := hide hW
  clear hW k1 k2 k3 mp mq
  have y0 := hY.cell 0; have y1 := hY.cell 1; simp only [List.getElem?_cons_zero, List.getElem?_cons_succ] at y0 y1
  have u0 := b1.cell 0; have u1 := b1.cell 1; have u2 := b1.cell 2; simp only [List.getElem?_cons_zero, List.getElem?_cons_succ] at u0 u1 u2
  have v0 := b3.cell 0; have v1 := b3.cell 1; have v2 := b3.cell 2; simp only [List.getElem?_cons_zero, List.getElem?_cons_succ] at v0 v1 v2
  have m0 := b2.cell 0
  simp only [List.getElem?_cons_zero] at m0
  have zy := hY.lt
  have z1 := b1.lt
  have z2 := b2.lt
  have z3 := b3.lt
  go_enter Try.func139, Try.ntmps139
  go_upto_region 1 with fail
  rw [HW.out]
  have hSd : (∀ b o, b < W.heap.size → W.drew.cell? ⟨b, o, none⟩ = W.cell? ⟨b, o, none⟩) ∧ Below W.heap.size W W.drew := kp (Below.refl _ _).drew
  clear hY b1 b2 b3
  refine wp_region_held (S := fun w' => (∀ b o, b < W.heap.size → w'.cell? ⟨b, o, none⟩ = W.cell? ⟨b, o, none⟩) ∧ Below W.heap.size W w') (by kernel_rfl) ?_
  change wpAnyH _ _ _ _ _ _ _ _ W.drew
  refine wpAnyH_take (i := 0) (v := ?_) rfl (by kernel_rfl) (by kernel_rfl) (by kernel_rfl) (fun _ _ _ h => h) (Or.inl ⟨by kernel_rfl, ?_⟩) (by assumption) ?_
  rotate_left 1
  · (intro w hSw; obtain ⟨hk1, hk2⟩ := hSw; go_simp <;> with_reducible rfl)
  simp only [Act.put, List.getElem_toArray, List.getElem_cons_zero, List.setIfInBounds_toArray, List.set_cons_zero, List.set_cons_succ]
  refine wpAnyH_take (i := 1) (v := ?_) rfl (by kernel_rfl) (by kernel_rfl) (by kernel_rfl) (fun _ _ _ h => h) (Or.inl ⟨by kernel_rfl, ?_⟩) (by assumption) ?_
  rotate_left 1
  · (intro w hSw; obtain ⟨hk1, hk2⟩ := hSw; go_simp <;> with_reducible rfl)
  simp only [Act.put, List.getElem_toArray, List.getElem_cons_zero, List.getElem_cons_succ, List.setIfInBounds_toArray, List.set_cons_zero, List.set_cons_succ]
  refine wpAnyH_take (i := 2) (v := ?_) rfl (by kernel_rfl) (by kernel_rfl) (by kernel_rfl) (fun _ _ _ h => h) (Or.inl ⟨by kernel_rfl, ?_⟩) (by assumption) ?_
  rotate_left 1
  · (intro w hSw; obtain ⟨hk1, hk2⟩ := hSw; go_simp <;> with_reducible rfl)
  simp only [Act.put, List.getElem_toArray, List.getElem_cons_zero, List.getElem_cons_succ, List.setIfInBounds_toArray, List.set_cons_zero, List.set_cons_succ]
  refine wpAnyH_take (i := 3) (v := ?_) rfl (by kernel_rfl) (by kernel_rfl) (by kernel_rfl) (fun _ _ _ h => h) (Or.inl ⟨by kernel_rfl, ?_⟩) (by assumption) ?_
  rotate_left 1
  · (intro w hSw; obtain ⟨hk1, hk2⟩ := hSw; go_simp <;> with_reducible rfl)
  simp only [Act.put, List.getElem_toArray, List.getElem_cons_zero, List.getElem_cons_succ, List.setIfInBounds_toArray, List.set_cons_zero, List.set_cons_succ]
  refine wpAnyH_take (i := 4) (v := ?_) rfl (by kernel_rfl) (by kernel_rfl) (by kernel_rfl) (fun _ _ _ h => h) (Or.inl ⟨by kernel_rfl, ?_⟩) (by assumption) ?_
  rotate_left 1
  · (intro w hSw; obtain ⟨hk1, hk2⟩ := hSw; go_simp <;> with_reducible rfl)
  simp only [Act.put, List.getElem_toArray, List.getElem_cons_zero, List.getElem_cons_succ, List.setIfInBounds_toArray, List.set_cons_zero, List.set_cons_succ]
  refine wpAnyH_take (i := 5) (v := ?_) rfl (by kernel_rfl) (by kernel_rfl) (by kernel_rfl) (fun _ _ _ h => h) (Or.inl ⟨by kernel_rfl, ?_⟩) (by assumption) ?_
  rotate_left 1
  · (intro w hSw; obtain ⟨hk1, hk2⟩ := hSw; go_simp <;> with_reducible rfl)
  simp only [Act.put, List.getElem_toArray, List.getElem_cons_zero, List.getElem_cons_succ, List.setIfInBounds_toArray, List.set_cons_zero, List.set_cons_succ]
  refine wpAnyH_take (i := 6) (v := ?_) rfl (by kernel_rfl) (by kernel_rfl) (by kernel_rfl) (fun _ _ _ h => h) (Or.inl ⟨by kernel_rfl, ?_⟩) (by assumption) ?_
  rotate_left 1
  · (intro w hSw; obtain ⟨hk1, hk2⟩ := hSw; go_simp <;> with_reducible rfl)
  simp only [Act.put, List.getElem_toArray, List.getElem_cons_zero, List.getElem_cons_succ, List.setIfInBounds_toArray, List.set_cons_zero, List.set_cons_succ]
  refine wpAnyH_take (i := 7) (v := ?_) rfl (by kernel_rfl) (by kernel_rfl) (by kernel_rfl) (fun _ _ _ h => h) (Or.inl ⟨by kernel_rfl, ?_⟩) (by assumption) ?_
  rotate_left 1
  · (intro w hSw; obtain ⟨hk1, hk2⟩ := hSw; go_simp <;> with_reducible rfl)
  simp only [Act.put, List.getElem_toArray, List.getElem_cons_zero, List.getElem_cons_succ, List.setIfInBounds_toArray, List.set_cons_zero, List.set_cons_succ]
  refine wpAnyH_take (i := 9) (v := ?_) rfl (by kernel_rfl) (by kernel_rfl) (by kernel_rfl) (fun _ _ _ h => h) (Or.inl ⟨by kernel_rfl, ?_⟩) (by assumption) ?_
  rotate_left 1
  · (intro w hSw; obtain ⟨hk1, hk2⟩ := hSw; go_simp <;> with_reducible rfl)
  simp only [Act.put, List.getElem_toArray, List.getElem_cons_zero, List.getElem_cons_succ, List.setIfInBounds_toArray, List.set_cons_zero, List.set_cons_succ]
  refine wpAnyH_take (i := 10) (v := ?_) rfl (by kernel_rfl) (by kernel_rfl) (by kernel_rfl) (fun _ _ _ h => h) (Or.inl ⟨by kernel_rfl, ?_⟩) (by assumption) ?_
  rotate_left 1
  · (intro w hSw; obtain ⟨hk1, hk2⟩ := hSw; go_simp <;> with_reducible rfl)
  simp only [Act.put, List.getElem_toArray, List.getElem_cons_zero, List.getElem_cons_succ, List.setIfInBounds_toArray, List.set_cons_zero, List.set_cons_succ]
  refine nextH (i := 8) (by kernel_rfl) rfl (fun K hK => ?_)
  go_simp
  refine (HI.out _).mono ?_
  rintro e_ w1 ⟨rfl, hbx⟩
  have hS' := kp (bel_tr hSd.2 hSd.2.size hbx)
  try dsimp only
  refine hK _ _ hS' ?_
  clear hK K hSd hbx
  have hSd := hS'
  clear hS'
  refine nextH (i := 11) (by kernel_rfl) rfl (fun K hK => ?_)
  go_simp
  refine (HM.out _).mono ?_
  rintro e_ w2 ⟨rfl, hbx⟩
  have hS' := kp (bel_tr hSd.2 hSd.2.size hbx)
  try dsimp only
  refine hK _ _ hS' ?_
  clear hK K hSd hbx
  have hSd := hS'
  clear hS'
  refine nextH (i := 12) (by kernel_rfl) rfl (fun K hK => ?_)
  go_simp
  refine hK _ _ hSd ?_
  clear hK K
  refine wpAnyH_done (by kernel_rfl) ?_ _
  go_wp2
  go_ret
  exact ⟨rfl, bel_tr hB0 hB0.size hSd.2⟩
theorem reflects1_c (H f n d gy lo hi cp : Int) (s q e : Nat) (A : Option Addr) (c : Nat) (l : List G) (w : World) (hr : Rd w A (gs l)) (hl : l.length ≤ 1000) (hok : OkS l) (k0 : Blk w q 24 [.int .i64 H, .slice A l.length c]) (k1 : Blk w s 123 [.int .i64 f, .int .i64 n, .int .i64 d]) (k3 : Blk w e 121 [.int .i64 gy, .int .i64 lo, .int .i64 hi])
    (h1 : 1 ≤ f) (h2 : f ≤ 3000) (n0 : 0 ≤ n) (n1 : n ≤ 100) (d0 : 1 ≤ d) (d1 : d ≤ 100) (y0 : 0 ≤ gy) (y1 : gy ≤ 300) (y2 : gy < f) (c0 : -100 ≤ cp) (c1 : cp ≤ 100) :
    Calls Try.prog 137 #[.int .i64 cp, .pointer (some ⟨q, 0, none⟩), .pointer (some ⟨s, 0, none⟩), .pointer (some ⟨e, 0, none⟩)] w fun r w' => r = .returned (.bool (l.any (hitW f n d gy cp))) ∧ Below w.heap.size w w' := by
  obtain ⟨W, hW⟩ : ∃ W, w.alloc (.cells #[.int .i64 cp] 3) = W := ⟨_, rfl⟩
  have hB0 : Below w.heap.size w W := by rw [← hW]; exact alloc_bel _ _
  have hY : Blk W w.heap.size 3 [.int .i64 cp] := by rw [← hW]; exact Blk.new w _ [_]
  have b0 := k0.bel hB0
  have b1 := k1.bel hB0
  have b3 := k3.bel hB0
  have hrW := hr.bel hB0
  have HCF := hide (containsFuncG_c (hitW f n d gy cp) 139 l A c #[.pointer (some ⟨s, 0, none⟩), .pointer (some ⟨w.heap.size, 0, none⟩), .pointer (some ⟨e, 0, none⟩)] W hrW hl Try.call139 (fun k h W' hb => by
    have hg := hok _ (List.getElem_mem h)
    exact reflects11_c _ _ f n d gy lo hi cp s w.heap.size e W' (b1.bel hb) (hY.bel hb) (b3.bel hb) h1 h2 hg.2.2.1 hg.2.2.2 n0 n1 d0 d1 y0 y1 y2 c0 c1))
  generalize l.any (hitW f n d gy cp) = v at HCF ⊢
  have HW := hide hW
  clear hW k0 k1 k3
  have u0 := b0.cell 0; have u1 := b0.cell 1; simp only [List.getElem?_cons_zero, List.getElem?_cons_succ] at u0 u1
  go_enter Try.func137, Try.ntmps137
  go_upto_region 1 with fail
  rw [HW.out]
  go_wp2_with (go_at_call 138; refine (HCF.out).mono ?_; rintro e_ w1 ⟨rfl, hb1⟩)
  go_ret
  exact ⟨rfl, bel_tr hB0 hB0.size hb1⟩
end Go.Proofs.Ytkcjiejdjdcbeaa
