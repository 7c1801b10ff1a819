/- Contracts: runs read again. -/
import Derived.Test.YtmdmkmfemhkfgaaE46
import Derived.Sort.CutIn
set_option linter.unusedSimpArgs false
set_option linter.unusedVariables false
set_option linter.unusedSimpArgs false
set_option linter.unusedVariables false
namespace Go.Proofs.Ytmdmkmfemhkfgaa
open Go.RowKit
set_option maxRecDepth 100000
attribute [local go_sem] Oper.semAt_some

/-- The numbers whose runs are written. -/
def expand (R : List G) : List Int := R.flatMap fun g => List.replicate g.2.toNat g.1
theorem expand_snoc (R : List G) (g : G) : expand (R ++ [g]) = expand R ++ List.replicate g.2.toNat g.1 := by simp [expand]
theorem expand_pre {R pre rest : List G} (h : R = pre ++ rest) : (expand pre).length ≤ (expand R).length := by
  subst h
  simp [expand]
/-- 'append' as an operation of a round: what is appended is known cell by cell. -/
theorem round_append {P : Program} {nn l' : Nat} (w : World) {o : Oper} {a : Act} {K : Act → World → Prop} {Q : Exit → Act → World → Prop} (s x : Operand) (t : TypeId)
    (ho : o.op = .call { callee := .builtin .append, args := #[s, x], argTypes := #[t, t] })
    (base : Nat) (e : TypeId) (i : TypeInfo) (z : Value) (size bytes : Nat) (ht : P.underlying t = some (.slice e)) (hi : P.info? e = some i) (hz : i.zero = some z)
    (hsize : i.size = size) (hby : i.bytes = bytes) (hzs : z.cells.size = size) (hsz : 0 < size)
    (v : Value) (n : Nat) (xs : List Value) (hs : a.eval s = v) (hown : w.ownsRow base e size v n xs)
    (ad : Addr) (m c : Nat) (news : List Value) (hx : a.eval x = .slice (some ad) m c) (hl : news.length = m * size) (hn : ∀ j u, news[j]? = some u → w.cell? (ad.add j) = some u) (h1 : ∀ u ∈ news, u.oneCell' = true)
    (h63 : n + m ≤ maxLen) (hbytes : (n + m) * bytes ≤ 140737488355328) (hbase : base ≤ w.heap.size)
    (h : ∀ v' w', w'.ownsRow base e size v' (n + m) (xs ++ news) → w.grownBy w' v.ownBlock → K (a.put o.dst v') w') :
    o.wpIn (Fence.wide.inRound l') nn P a w K Q := by
  obtain ⟨v', w', hrun, h2, h3, _⟩ := run_append_own (P := P) w base t o.type e i z size bytes ht hi hz hsize hby hzs hsz v n xs hown ad m c news hl hn h1 h63 hbytes hbase
  refine ⟨fun _ _ => trivial, ?_⟩
  rw [show (Fence.wide.inRound l').round = some l' from rfl, Oper.semAt_some l' _ _ (by rw [ho]; intro c hc; cases hc)]
  simp [execOp, ho, resolve, invoke, builtin, hs, hx, hrun, Result.andThen, Oper.uponIn]
  exact h v' w' h2 h3

/-- A box and a row of the call's own while the row grows. -/
theorem box_grown {S : Nat → Prop} {W w1 : World} {n₀ B : Nat} {t e : TypeId} {size : Nat} {v v' : Value} {k m : Nat} {xs ys : List Value}
    (hv : Boxed W B t v) (hte : t ≠ e) (hrow : W.ownsRow n₀ e size v k xs) (hown' : w1.ownsRow n₀ e size v' m ys) (hgrow : W.grownBy w1 v.ownBlock)
    (hS : ∀ k, S k → k < n₀ ∧ k ≠ B) (hn : n₀ ≤ W.heap.size) :
    Boxed w1 B t v ∧ Boxed (w1.setCell ⟨B, 0, none⟩ v') B t v' ∧ (w1.setCell ⟨B, 0, none⟩ v').ownsRow n₀ e size v' m ys ∧ KeepsOthers W (w1.setCell ⟨B, 0, none⟩ v') ∧ Keep S W (w1.setCell ⟨B, 0, none⟩ v') := by
  have hv1 : Boxed w1 B t v := hv.kept hgrow (hv.not_row hte hrow)
  have hrw : ∀ j, v.ownBlock = some j → n₀ ≤ j ∧ ∃ cs fr, W.heap[j]? = some (.cells cs e fr) := fun j ej => by
    rcases hrow.2 with ⟨rfl, _⟩ | ⟨g, cap, cur, rfl, hb, hgb, _⟩
    · simp [Value.ownBlock] at ej
    · obtain rfl : g = j := by simpa [Value.ownBlock] using ej
      exact ⟨hb, _, _, hgb⟩
  refine ⟨hv1, hv1.set v', hown'.kept (grownBy_setCell' w1 B v') (.inr (hv1.not_row hte hown').symm), ?_, ?_⟩
  · refine (KeepsOthers.of_grownBy hgrow fun j o ej hj => ?_).trans (KeepsOthers.setCell _ _ _)
    obtain ⟨_, cs, fr, h3⟩ := hrw j ej
    rw [h3] at hj; cases hj; rfl
  · refine (Keep.grown hgrow (fun k hk => by have := (hS k hk).1; omega) fun j ej hj => ?_).trans (Keep.setCell _ _ _ fun hk => (hS _ hk).2 rfl)
    have h3 := (hrw j ej).1
    have h4 := (hS j hj).1
    omega
set_option maxHeartbeats 2000000 in
theorem readRuns_ok (R : List G) (A : Option Addr) (c : Nat) (w : World) (hr : Rd w A (ints (flat R))) (hl : R.length ≤ 1000) (hcap : (flat R).length ≤ c) (hcnt : ∀ g ∈ R, 1 ≤ g.2 ∧ g.2 ≤ 200) (htot : (expand R).length ≤ 100000) :
    Calls Try.prog 65 #[.slice A (flat R).length c] w fun r w' => (∃ A' c', r = .returned (.tuple #[.slice A' (expand R).length c', .int .i64 (slenE (expand R).length)]) ∧ Rd w' A' (ints (expand R))) ∧ Below w.heap.size w w' := by
  obtain ⟨i0, hi, iz0, iz1, iz2⟩ := info_parts Try.infoN
  obtain ⟨N, hN⟩ : ∃ N, (flat R).length = N := ⟨_, rfl⟩
  rw [hN]
  refine calls_marks 5 Try.func65 rfl ?_
  simp only [Try.ntmps65, List.size_toArray, List.length_cons, List.length_nil, Nat.reduceAdd, Nat.reduceSub, Array.replicate_succ, Array.replicate_zero, List.push_toArray, List.append_toArray, List.nil_append, List.cons_append]
  go_wp2_with (first | (go_at_call 90; refine (chunk_c _ _ _ _).mono ?_; rintro e w2 ⟨rfl, rfl⟩))
  obtain ⟨p, hp⟩ : ∃ p, w.heap.size = p := ⟨_, rfl⟩
  obtain ⟨p1, hp1⟩ : ∃ q, p + 1 = q := ⟨_, rfl⟩
  obtain ⟨p2, hp2⟩ : ∃ q, p1 + 1 = q := ⟨_, rfl⟩
  obtain ⟨p3, hp3⟩ : ∃ q, p2 + 1 = q := ⟨_, rfl⟩
  obtain ⟨p4, hp4⟩ : ∃ q, p3 + 1 = q := ⟨_, rfl⟩
  obtain ⟨W2, hW2⟩ : ∃ W2, ((((w.alloc (.cells #[.slice none 0 0] 47)).alloc (.cells #[.int .i64 0] 27)).alloc (.cells #[.slice none 0 0] 47)).alloc (.cells #[.slice A N c] 47)).alloc (.cells #[.int .i64 2] 3) = W2 := ⟨_, rfl⟩
  have hsz2 : W2.heap.size = p + 5 := by rw [← hW2, ← hp]; simp
  have hb2 : Below p w W2 := by rw [← hW2, ← hp]; exact ((((((Below.refl _ w).alloc (Nat.le_refl _) _).alloc (by simp) _).alloc (by simp; omega) _).alloc (by simp; omega) _).alloc (by simp; omega) _)
  have hres : Boxed W2 p 47 (.slice none 0 0) := by rw [← hW2, ← hp]; exact ((((Boxed.new w _ _).alloc _).alloc _).alloc _).alloc _
  have herr : Boxed W2 p1 27 (.int .i64 0) := by
    rw [← hW2, ← hp1, ← hp]
    have := Boxed.new (w.alloc (.cells #[.slice none 0 0] 47)) 27 (.int .i64 0)
    rw [World.size_alloc] at this
    exact ((this.alloc _).alloc _).alloc _
  have hbox : Boxed W2 p2 47 (.slice none 0 0) := by
    rw [← hW2, ← hp2, ← hp1, ← hp]
    have := Boxed.new ((w.alloc (.cells #[.slice none 0 0] 47)).alloc (.cells #[.int .i64 0] 27)) 47 (.slice none 0 0)
    rw [World.size_alloc, World.size_alloc] at this
    exact (this.alloc _).alloc _
  have hc3 : W2.cell? ⟨p3, 0, none⟩ = some (.slice A N c) := by
    rw [← hW2, ← hp3, ← hp2, ← hp1, ← hp]
    have := Boxed.new (((w.alloc (.cells #[.slice none 0 0] 47)).alloc (.cells #[.int .i64 0] 27)).alloc (.cells #[.slice none 0 0] 47)) 47 (.slice A N c)
    rw [World.size_alloc, World.size_alloc, World.size_alloc] at this
    exact (this.alloc _).cell
  have hc4 : W2.cell? ⟨p4, 0, none⟩ = some (.int .i64 2) := by
    rw [← hW2, ← hp4, ← hp3, ← hp2, ← hp1, ← hp]
    have := Boxed.new ((((w.alloc (.cells #[.slice none 0 0] 47)).alloc (.cells #[.int .i64 0] 27)).alloc (.cells #[.slice none 0 0] 47)).alloc (.cells #[.slice A N c] 47)) 3 (.int .i64 2)
    rw [World.size_alloc, World.size_alloc, World.size_alloc, World.size_alloc] at this
    exact this.cell
  simp only [World.size_alloc, hp, hp1, hp2, hp3, hp4]
  rw [hW2]
  have hr2 : Rd W2 A (ints (flat R)) := hr.bel (by rw [hp]; exact hb2)
  have hlow := hr.low
  rw [hp] at hlow
  clear hW2
  obtain ⟨S, hS⟩ : ∃ S : Nat → Prop, ∀ k, S k ↔ k < p + 5 ∧ k ≠ p2 := ⟨fun k => k < p + 5 ∧ k ≠ p2, fun _ => Iff.rfl⟩
  have HNN := hide hN
  refine wpIn_wide.1 (range_law (n := 5) (α := G) rfl Try.call100 (chunk_iter 4 p3 p4 (by omega) R A c hl S ((hS _).2 ⟨by omega, by omega⟩) ((hS _).2 ⟨by omega, by omega⟩) (fun hx b off e => (hS _).2 (by have := hlow (fun h' => hx (by simpa [ints] using h')) b off e; omega)) W2 (by rw [hN]; exact hc3) hc4 hcap hr2)
    (fun k hk => by rw [hsz2]; exact ((hS k).1 hk).1) (fun x args W h => by obtain ⟨b, o, h, _⟩ := h; rw [h]; rfl)
    (fun x args W l o o' h _ hl ho => h.deaf o' hl ho)
    (fun pre W => HeldI (p + 5) p2 (expand pre) W ∧ Keep S W2 W)
    (fun pre W W' ⟨h1, h2⟩ hb => ⟨h1.stable hb, h2.trans (Keep.of_below hb fun k hk => by have h3 := h2.size; have := ((hS k).1 hk).1; omega)⟩)
    (fun pre W l o o' ⟨h1, h2⟩ hB hl ho => ⟨h1.deaf o' hl ho, h2.trans (Keep.putObj _ _ _ fun hk => by have := ((hS l).1 hk).1; omega)⟩)
    ⟨⟨_, hbox, World.ownsRow_nil _ _ _ _⟩, Keep.refl _ _⟩
    (fun args => { tmps := #[.slice A N c, undef, .pointer (some ⟨p, 0, none⟩), .pointer (some ⟨p1, 0, none⟩), .pointer (some ⟨p2, 0, none⟩), args.getD 0 undef, undef, .slice A N c, .func (.func 100) #[] #[.pointer (some ⟨p3, 0, none⟩), .pointer (some ⟨p4, 0, none⟩)], args.getD 0 undef, undef, undef, undef, undef, undef, undef, undef, undef, undef, undef, undef, undef, undef, undef, undef, undef, undef, undef], defers := [] })
    ?assign ?body ?done)
  case assign =>
    rintro l' x args W' K ⟨b, o, rfl, _⟩ hK
    gi_wp2
    exact hK
  case body =>
    rintro l' pre ⟨v, m⟩ rest args W' hx ⟨⟨u, hbx, hown⟩, hkp⟩ ⟨b, o, rfl, x0, x1⟩ hge
    obtain ⟨hm1, hm2⟩ := hcnt (v, m) (by rw [hx]; simp)
    dsimp only at hm1 hm2 x0 x1
    obtain ⟨m, rfl⟩ : ∃ k : Nat, m = (k : Int) := ⟨m.toNat, by omega⟩
    have hbc := hbx.cell
    have hbf := hbx.frozen
    have hpW : p2 < W'.heap.size := hbx.lt
    have hplen : (expand pre).length ≤ 100000 := by have := expand_pre hx; omega
    have hE : errIf (outB (m : Int) 1 200) 2 = 0 := by rw [outB_false.2 ⟨hm1, hm2⟩]; rfl
    have hg : ∀ v : Value, (#[v] : Array Value).getD 0 undef = v := fun _ => rfl
    simp only [hg]
    gi_upto_region 7 with (first
      | (refine ⟨trivial, ?_⟩; gi_at_call 69; refine (CallsIn.mono (CallsIn.inRound l' (callsIn_wide.2 (rangeError_c _ _ _ _))) ?_); rintro e w3 ⟨rfl, rfl⟩; rw [hE]))
    obtain ⟨PB, hPBd⟩ : ∃ PB : Value → World → Prop, PB = fun y w => Below W'.heap.size W' w ∧ ∃ b o c5, y = .slice (some ⟨b, o, none⟩) m c5 ∧ Rd w (some ⟨b, o, none⟩) (ints (List.replicate m v)) := ⟨_, rfl⟩
    obtain ⟨PC, hPCd⟩ : ∃ PC : Value → World → Prop, PC = fun y w => Boxed w p2 47 u ∧ Boxed (w.setCell ⟨p2, 0, none⟩ y) p2 47 y ∧ (w.setCell ⟨p2, 0, none⟩ y).ownsRow (p + 5) 3 1 y ((expand pre).length + m) (ints (expand pre) ++ ints (List.replicate m v)) ∧ KeepsOthers W' (w.setCell ⟨p2, 0, none⟩ y) ∧ Keep S W' (w.setCell ⟨p2, 0, none⟩ y) := ⟨_, rfl⟩
    obtain ⟨PD, hPDd⟩ : ∃ PD : World → Prop, PD = fun w => KeepsOthers W' w ∧ Keep S W' w ∧ HeldI (p + 5) p2 (expand (pre ++ [(v, (m : Int))])) w := ⟨_, rfl⟩
    refine region_inv (by kernel_rfl) (fun listed a w => ∃ (b0 b1 b2 b3 b4 b5 b6 b7 b8 : Bool) (y0 y1 y2 y3 y4 y5 y6 y7 : Value), listed = #[b0, b1, b2, b3, b4, b5, b6, b7, b8] ∧ a = { tmps := #[.slice A N c, undef, .pointer (some ⟨p, 0, none⟩), .pointer (some ⟨p1, 0, none⟩), .pointer (some ⟨p2, 0, none⟩), .slice (some ⟨b, o, none⟩) 2 2, .int .i64 0, .slice A N c, .func (.func 100) #[] #[.pointer (some ⟨p3, 0, none⟩), .pointer (some ⟨p4, 0, none⟩)], .slice (some ⟨b, o, none⟩) 2 2, .slice (some ⟨b, o, none⟩) 2 2, .pointer (some ⟨b, o + 1, none⟩), .int .i64 (m : Int), .int .i64 0, .int .i64 0, .bool false, undef, y0, y1, y2, y3, y4, y5, y6, y7, undef, undef, undef], defers := [] } ∧ (b0 = true → y0 = u) ∧ (b1 = true → y1 = .slice (some ⟨b, o, none⟩) 2 2) ∧ (b2 = true → b1 = true ∧ y2 = .slice (some ⟨b, o, none⟩) 1 2) ∧ (b3 = true → y3 = .slice (some ⟨b, o, none⟩) 2 2) ∧ (b4 = true → b3 = true ∧ y4 = .pointer (some ⟨b, o + 1, none⟩)) ∧ (b5 = true → b4 = true ∧ y5 = .int .i64 (m : Int)) ∧ (b6 = true → b2 = true ∧ b5 = true) ∧ (b7 = true → b0 = true ∧ b6 = true) ∧ (b8 = true → b7 = true) ∧ (b6 = false → w = W'.drew) ∧ (b6 = true → b7 = false → PB y6 w) ∧ (b7 = true → b8 = false → PC y7 w) ∧ (b8 = true → PD w)) ?step ?fin ?start
    case start =>
      refine ⟨false, false, false, false, false, false, false, false, false, undef, undef, undef, undef, undef, undef, undef, undef, rfl, rfl, ?_⟩
      simp
    case fin =>
      rintro listed a w ⟨b0, b1, b2, b3, b4, b5, b6, b7, b8, y0, y1, y2, y3, y4, y5, y6, y7, rfl, rfl, h0, h1, h2, h3, h4, h5, h6, h7, h8, hA, hPB, hPC, hPD⟩ hr
      have hb8 : b8 = true := by
        clear h0 h1 h2 h3 h4 h5 h6 h7 h8 hA hPB hPC hPD
        revert b0 b1 b2 b3 b4 b5 b6 b7 b8
        decide +kernel
      have hPDw := hPD hb8
      rw [hPDd] at hPDw
      obtain ⟨hk1, hk2, hk3⟩ := hPDw
      gi_wp2
      exact ⟨hk1, hk2, hk3, hkp.trans hk2⟩
    case step =>
      rintro listed a w i ⟨b0, b1, b2, b3, b4, b5, b6, b7, b8, y0, y1, y2, y3, y4, y5, y6, y7, rfl, rfl, h0, h1, h2, h3, h4, h5, h6, h7, h8, hA, hPB, hPC, hPD⟩ hri
      obtain ⟨hnot, oj, hoj, hall⟩ := mem_ready.1 hri
      have hi9 : i < 9 := by have := (Array.getElem?_eq_some_iff.1 hoj).1; simpa using this
      have hcase : i = 0 ∨ i = 1 ∨ i = 2 ∨ i = 3 ∨ i = 4 ∨ i = 5 ∨ i = 6 ∨ i = 7 ∨ i = 8 := by omega
      clear hi9 hri
      rcases hcase with rfl | rfl | rfl | rfl | rfl | rfl | rfl | rfl | rfl
      all_goals
        have hoj' := Option.some.inj hoj
        subst hoj'
      · --<T0
        obtain rfl : b0 = false := by simpa using hnot
        have e7 : b7 = false := by cases b7 with | false => rfl | true => exact absurd ((h7 rfl).1) (by simp)
        have hbw : Boxed w p2 47 u := by
          cases b6 with
          | false => rw [hA rfl]; exact boxed_bel hbx (Below.refl _ _).drew
          | true => have h := hPB rfl e7; rw [hPBd] at h; exact boxed_bel hbx h.1
        have hcw := hbw.cell
        replace h0 := hide h0
        replace h1 := hide h1
        replace h2 := hide h2
        replace h3 := hide h3
        replace h4 := hide h4
        replace h5 := hide h5
        replace h6 := hide h6
        replace h7 := hide h7
        replace h8 := hide h8
        replace hA := hide hA
        replace hPB := hide hPB
        replace hPC := hide hPC
        replace hPD := hide hPD
        refine wpOpIn_do rfl rfl (fun K' hK => ?_)
        go_simp
        refine hK _ _ ?_
        exact ⟨true, b1, b2, b3, b4, b5, b6, b7, b8, u, y1, y2, y3, y4, y5, y6, y7, rfl, rfl, (fun _ => rfl), (h1.out), (h2.out), (h3.out), (h4.out), (h5.out), (h6.out), (fun h => ⟨rfl, (h7.out h).2⟩), (h8.out), (hA.out), (hPB.out), (hPC.out), (hPD.out)⟩
        -->T0
      · --<T1
        obtain rfl : b1 = false := by simpa using hnot
        replace h0 := hide h0
        replace h1 := hide h1
        replace h2 := hide h2
        replace h3 := hide h3
        replace h4 := hide h4
        replace h5 := hide h5
        replace h6 := hide h6
        replace h7 := hide h7
        replace h8 := hide h8
        replace hA := hide hA
        replace hPB := hide hPB
        replace hPC := hide hPC
        replace hPD := hide hPD
        refine wpOpIn_do rfl rfl (fun K' hK => ?_)
        go_simp
        refine hK _ _ ?_
        exact ⟨b0, true, b2, b3, b4, b5, b6, b7, b8, y0, .slice (some ⟨b, o, none⟩) 2 2, y2, y3, y4, y5, y6, y7, rfl, rfl, (h0.out), (fun _ => rfl), (fun h => ⟨rfl, (h2.out h).2⟩), (h3.out), (h4.out), (h5.out), (h6.out), (h7.out), (h8.out), (hA.out), (hPB.out), (hPC.out), (hPD.out)⟩
        -->T1
      · --<T2
        obtain rfl : b2 = false := by simpa using hnot
        have d1 : b1 = true := by simpa using hall { on := 1, ground := Ground.data } (by simp) rfl
        have hy := h1 d1
        subst hy
        replace h0 := hide h0
        replace h1 := hide h1
        replace h2 := hide h2
        replace h3 := hide h3
        replace h4 := hide h4
        replace h5 := hide h5
        replace h6 := hide h6
        replace h7 := hide h7
        replace h8 := hide h8
        replace hA := hide hA
        replace hPB := hide hPB
        replace hPC := hide hPC
        replace hPD := hide hPD
        refine wpOpIn_do rfl rfl (fun K' hK => ?_)
        go_simp
        refine hK _ _ ?_
        exact ⟨b0, b1, true, b3, b4, b5, b6, b7, b8, y0, .slice (some ⟨b, o, none⟩) 2 2, .slice (some ⟨b, o, none⟩) 1 2, y3, y4, y5, y6, y7, rfl, rfl, (h0.out), (h1.out), (fun _ => ⟨d1, rfl⟩), (h3.out), (h4.out), (h5.out), (fun h => ⟨rfl, (h6.out h).2⟩), (h7.out), (h8.out), (hA.out), (hPB.out), (hPC.out), (hPD.out)⟩
        -->T2
      · --<T3
        obtain rfl : b3 = false := by simpa using hnot
        replace h0 := hide h0
        replace h1 := hide h1
        replace h2 := hide h2
        replace h3 := hide h3
        replace h4 := hide h4
        replace h5 := hide h5
        replace h6 := hide h6
        replace h7 := hide h7
        replace h8 := hide h8
        replace hA := hide hA
        replace hPB := hide hPB
        replace hPC := hide hPC
        replace hPD := hide hPD
        refine wpOpIn_do rfl rfl (fun K' hK => ?_)
        go_simp
        refine hK _ _ ?_
        exact ⟨b0, b1, b2, true, b4, b5, b6, b7, b8, y0, y1, y2, .slice (some ⟨b, o, none⟩) 2 2, y4, y5, y6, y7, rfl, rfl, (h0.out), (h1.out), (h2.out), (fun _ => rfl), (fun h => ⟨rfl, (h4.out h).2⟩), (h5.out), (h6.out), (h7.out), (h8.out), (hA.out), (hPB.out), (hPC.out), (hPD.out)⟩
        -->T3
      · --<T4
        obtain rfl : b4 = false := by simpa using hnot
        have d3 : b3 = true := by simpa using hall { on := 3, ground := Ground.data } (by simp) rfl
        have hy := h3 d3
        subst hy
        replace h0 := hide h0
        replace h1 := hide h1
        replace h2 := hide h2
        replace h3 := hide h3
        replace h4 := hide h4
        replace h5 := hide h5
        replace h6 := hide h6
        replace h7 := hide h7
        replace h8 := hide h8
        replace hA := hide hA
        replace hPB := hide hPB
        replace hPC := hide hPC
        replace hPD := hide hPD
        refine wpOpIn_do rfl rfl (fun K' hK => ?_)
        go_simp
        refine hK _ _ ?_
        exact ⟨b0, b1, b2, b3, true, b5, b6, b7, b8, y0, y1, y2, .slice (some ⟨b, o, none⟩) 2 2, .pointer (some ⟨b, o + 1, none⟩), y5, y6, y7, rfl, rfl, (h0.out), (h1.out), (h2.out), (h3.out), (fun _ => ⟨d3, rfl⟩), (fun h => ⟨rfl, (h5.out h).2⟩), (h6.out), (h7.out), (h8.out), (hA.out), (hPB.out), (hPC.out), (hPD.out)⟩
        -->T4
      · --<T5
        obtain rfl : b5 = false := by simpa using hnot
        have d4 : b4 = true := by simpa using hall { on := 4, ground := Ground.data } (by simp) rfl
        have hy := (h4 d4).2
        subst hy
        have e6 : b6 = false := by cases b6 with | false => rfl | true => exact absurd ((h6 rfl).2) (by simp)
        obtain rfl := hA e6
        have x1d : W'.drew.cell? ⟨b, o + 1, none⟩ = some (.int .i64 (m : Int)) := x1
        replace h0 := hide h0
        replace h1 := hide h1
        replace h2 := hide h2
        replace h3 := hide h3
        replace h4 := hide h4
        replace h5 := hide h5
        replace h6 := hide h6
        replace h7 := hide h7
        replace h8 := hide h8
        replace hA := hide hA
        replace hPB := hide hPB
        replace hPC := hide hPC
        replace hPD := hide hPD
        refine wpOpIn_do rfl rfl (fun K' hK => ?_)
        go_simp
        refine hK _ _ ?_
        exact ⟨b0, b1, b2, b3, b4, true, b6, b7, b8, y0, y1, y2, y3, .pointer (some ⟨b, o + 1, none⟩), .int .i64 (m : Int), y6, y7, rfl, rfl, (h0.out), (h1.out), (h2.out), (h3.out), (h4.out), (fun _ => ⟨d4, rfl⟩), (fun h => ⟨(h6.out h).1, rfl⟩), (h7.out), (h8.out), (hA.out), (hPB.out), (hPC.out), (hPD.out)⟩
        -->T5
      · --<T6
        obtain rfl : b6 = false := by simpa using hnot
        have d2 : b2 = true := by simpa using hall { on := 2, ground := Ground.data } (by simp) rfl
        have d5 : b5 = true := by simpa using hall { on := 5, ground := Ground.data } (by simp) rfl
        have hy := (h2 d2).2
        subst hy
        have hy := (h5 d5).2
        subst hy
        obtain rfl := hA rfl
        have e7 : b7 = false := by cases b7 with | false => rfl | true => exact absurd ((h7 rfl).2) (by simp)
        have e8 : b8 = false := by cases b8 with | false => rfl | true => exact absurd ((h8 rfl).symm.trans e7) (by simp)
        have hrd : Rd W'.drew (some ⟨b, o, none⟩) (ints [v]) := fun _ => ⟨b, o, rfl, World.block_lt_of_cell? _ _ x0, fun j z hz => by cases j with | zero => simp [ints] at hz; rw [← hz]; exact x0 | succ j => simp [ints] at hz⟩
        have HRC := hide (repeat_c v m (some ⟨b, o, none⟩) 2 W'.drew hrd (by omega) (by omega))
        replace h0 := hide h0
        replace h1 := hide h1
        replace h2 := hide h2
        replace h3 := hide h3
        replace h4 := hide h4
        replace h5 := hide h5
        replace h6 := hide h6
        replace h7 := hide h7
        replace h8 := hide h8
        replace hA := hide hA
        replace hPB := hide hPB
        replace hPC := hide hPC
        replace hPD := hide hPD
        refine wpOpIn_do rfl rfl (fun K' hK => ?_)
        go_simp
        refine ⟨trivial, ?_⟩
        gi_at_call 91
        refine (CallsIn.mono (CallsIn.inRound l' (callsIn_wide.2 HRC.out)) ?_)
        rintro e w5 ⟨⟨A5, c5, rfl, hrd5⟩, hb5⟩
        try dsimp only
        refine hK _ _ ?_
        obtain ⟨bb, oo, rfl, hbb, hcc⟩ := hrd5 (by cases m with | zero => omega | succ m => simp [ints, List.replicate_succ])
        have hPBn : PB (.slice (some ⟨bb, oo, none⟩) m c5) w5 := by rw [hPBd]; exact ⟨bel_tr (Below.refl _ _).drew (Nat.le_refl _) hb5, bb, oo, c5, rfl, fun _ => ⟨bb, oo, rfl, hbb, hcc⟩⟩
        exact ⟨b0, b1, b2, b3, b4, b5, true, b7, b8, y0, y1, .slice (some ⟨b, o, none⟩) 1 2, y3, y4, .int .i64 (m : Int), .slice (some ⟨bb, oo, none⟩) m c5, y7, rfl, rfl, (h0.out), (h1.out), (h2.out), (h3.out), (h4.out), (h5.out), (fun _ => ⟨d2, d5⟩), (fun h => ⟨(h7.out h).1, rfl⟩), (h8.out), (fun h => by cases h), (fun _ _ => hPBn), (fun h => by rw [e7] at h; cases h), (fun h => by rw [e8] at h; cases h)⟩
        -->T6
      · --<T7
        obtain rfl : b7 = false := by simpa using hnot
        have d0 : b0 = true := by simpa using hall { on := 0, ground := Ground.data } (by simp) rfl
        have d6 : b6 = true := by simpa using hall { on := 6, ground := Ground.data } (by simp) rfl
        have hy := h0 d0
        subst hy
        have e8 : b8 = false := by cases b8 with | false => rfl | true => exact absurd (h8 rfl) (by simp)
        have hPBw := hPB d6 rfl
        rw [hPBd] at hPBw
        obtain ⟨hb5, bb, oo, c5, rfl, hrd5⟩ := hPBw
        have hown5 := ownsRow_bel hown hb5
        have hbx5 := boxed_bel hbx hb5
        have hz5 := hb5.size
        replace h0 := hide h0
        replace h1 := hide h1
        replace h2 := hide h2
        replace h3 := hide h3
        replace h4 := hide h4
        replace h5 := hide h5
        replace h6 := hide h6
        replace h7 := hide h7
        replace h8 := hide h8
        replace hA := hide hA
        replace hPB := hide hPB
        replace hPC := hide hPC
        replace hPD := hide hPD
        refine wpOpIn_do rfl rfl (fun K' hK => ?_)
        refine round_append w _ _ 47 rfl (p + 5) 3 i0 _ 1 8 Try.underlying47 hi iz0 iz1 iz2 rfl (by decide) _ _ _ rfl hown5 ⟨bb, oo, none⟩ m c5 (ints (List.replicate m v)) rfl (by simp) (fun j z hz => ?_) (by intro z hz; simp only [ints, List.mem_map] at hz; obtain ⟨_, _, rfl⟩ := hz; rfl) (by unfold maxLen; omega) (by omega) (by omega) ?_
        · obtain ⟨b9, o9, e9, hb9, hc9⟩ := hrd5 (by intro h; rw [h] at hz; simp at hz)
          injection e9 with e9; injection e9 with e91 e92; subst e91 e92
          rw [show (⟨bb, oo, none⟩ : Addr).add j = ⟨bb, oo + j, none⟩ by unfold Addr.add; split <;> simp_all]
          exact hc9 j z hz
        intro v' w6 hown6 hg6
        obtain ⟨q1, q2, q3, q4, q5⟩ := box_grown (S := S) hbx5 (by decide) hown5 hown6 hg6 (fun k hk => (hS k).1 hk) (by omega)
        have hPCn : PC v' w6 := by rw [hPCd]; exact ⟨q1, q2, q3, (others_of_below hb5).trans q4, (Keep.of_below hb5 (fun k hk => by have h3 := hkp.size; have := ((hS k).1 hk).1; omega)).trans q5⟩
        simp only [Act.put, List.getElem_toArray, List.getElem_cons_zero, List.getElem_cons_succ, List.setIfInBounds_toArray, List.set_cons_zero, List.set_cons_succ]
        refine hK _ _ ?_
        exact ⟨b0, b1, b2, b3, b4, b5, b6, true, b8, y0, y1, y2, y3, y4, y5, .slice (some ⟨bb, oo, none⟩) m c5, v', rfl, rfl, (h0.out), (h1.out), (h2.out), (h3.out), (h4.out), (h5.out), (h6.out), (fun _ => ⟨d0, d6⟩), (fun _ => rfl), (fun h => by rw [d6] at h; cases h), (fun _ h => by cases h), (fun _ _ => hPCn), (fun h => by rw [e8] at h; cases h)⟩
        -->T7
      · --<T8
        obtain rfl : b8 = false := by simpa using hnot
        have d7 : b7 = true := by simpa using hall { on := 7, ground := Ground.data } (by simp) rfl
        have hPCw := hPC d7 rfl
        rw [hPCd] at hPCw
        obtain ⟨q1, q2, q3, q4, q5⟩ := hPCw
        obtain ⟨A7, c7, rfl⟩ := ownsRow_slice q3
        have q1c := q1.cell
        have q1f := q1.frozen
        have q1z := q1.lt
        replace h0 := hide h0
        replace h1 := hide h1
        replace h2 := hide h2
        replace h3 := hide h3
        replace h4 := hide h4
        replace h5 := hide h5
        replace h6 := hide h6
        replace h7 := hide h7
        replace h8 := hide h8
        replace hA := hide hA
        replace hPB := hide hPB
        replace hPC := hide hPC
        replace hPD := hide hPD
        refine wpOpIn_do rfl rfl (fun K' hK => ?_)
        go_simp
        refine hK _ _ ?_
        have hPDn : PD (w.setCell ⟨p2, 0, none⟩ (.slice A7 ((expand pre).length + m) c7)) := by rw [hPDd]; exact ⟨q4, q5, ⟨_, q2, by rw [expand_snoc, List.length_append, List.length_replicate, ints_append]; exact q3⟩⟩
        exact ⟨b0, b1, b2, b3, b4, b5, b6, b7, true, y0, y1, y2, y3, y4, y5, y6, .slice A7 ((expand pre).length + m) c7, rfl, rfl, (h0.out), (h1.out), (h2.out), (h3.out), (h4.out), (h5.out), (h6.out), (h7.out), (fun _ => d7), (fun h => by rw [(h7.out d7).2] at h; cases h), (fun _ h => by rw [d7] at h; cases h), (fun _ h => by cases h), (fun _ => hPDn)⟩
        -->T8
  case done =>
    rintro D W' hD ⟨⟨u, hbx, hown⟩, hkp⟩ hK
    --<DN
    obtain ⟨A', c', rfl⟩ := ownsRow_slice hown
    have hr1 : Boxed W' p 47 (.slice none 0 0) := (hkp.block p ((hS _).2 ⟨by omega, by omega⟩)).trans hres
    have he1 : Boxed W' p1 27 (.int .i64 0) := (hkp.block p1 ((hS _).2 ⟨by omega, by omega⟩)).trans herr
    have hpd : p < W'.heap.size := hr1.lt
    have hpd1 : p1 < W'.heap.size := he1.lt
    have k0 := hbx.cell
    have hDn : p ≠ D ∧ p1 ≠ D := by omega
    have hX := hide hown
    have hKH := hide hK
    clear hown hK
    have hne0 : ¬ (p1 = p) := by omega
    have HLE := hide (fun W => lengthError_c A' (expand R).length c' W (by omega))
    obtain ⟨le, hle⟩ : ∃ le, Hid (slenE (expand R).length = le) := ⟨_, rfl⟩
    rw [hle.out] at HLE
    go_upto_region 8 with fail
    refine (wpIn_wide (n := 5)).1 (region_inv (by kernel_rfl) (fun listed a w => ∃ (b0 b1 b2 b3 b4 : Bool) (y0 y1 y2 : Value), listed = #[b0, b1, b2, b3, b4] ∧ a = { tmps := #[.slice A N c, undef, .pointer (some ⟨p, 0, none⟩), .pointer (some ⟨p1, 0, none⟩), .pointer (some ⟨p2, 0, none⟩), undef, undef, .slice A N c, .func (.func 100) #[] #[.pointer (some ⟨p3, 0, none⟩), .pointer (some ⟨p4, 0, none⟩)], undef, undef, undef, undef, undef, undef, undef, undef, undef, undef, undef, undef, undef, undef, undef, undef, y0, y1, y2], defers := [{ target := .collected D, args := #[] }] } ∧ (b0 = true → y0 = .slice A' (expand R).length c') ∧ (b1 = true → y1 = .slice A' (expand R).length c') ∧ (b2 = true → b1 = true ∧ y2 = .int .i64 le) ∧ (b3 = true → b0 = true ∧ b2 = true) ∧ (b4 = true → b3 = true) ∧ (b3 = false → w = W'.drew) ∧ (b3 = true → b4 = false → w = (W'.setCell ⟨p, 0, none⟩ (.slice A' (expand R).length c')).drew) ∧ (b4 = true → w = ((W'.setCell ⟨p, 0, none⟩ (.slice A' (expand R).length c')).setCell ⟨p1, 0, none⟩ (.int .i64 le)).drew)) ?step ?fin ?start)
    case start =>
      refine ⟨false, false, false, false, false, undef, undef, undef, rfl, rfl, ?_⟩
      simp
    case step =>
      rintro listed a w i ⟨b0, b1, b2, b3, b4, y0, y1, y2, rfl, rfl, h0, h1, h2, h3, h4, hA, hB, hC⟩ hri
      obtain ⟨hnot, oj, hoj, hall⟩ := mem_ready.1 hri
      have hi5 : i < 5 := by have := (Array.getElem?_eq_some_iff.1 hoj).1; simpa using this
      have hcase : i = 0 ∨ i = 1 ∨ i = 2 ∨ i = 3 ∨ i = 4 := by omega
      clear hi5 hri
      rcases hcase with rfl | rfl | rfl | rfl | rfl
      all_goals
        have hoj' := Option.some.inj hoj
        subst hoj'
      · obtain rfl : b0 = false := by simpa using hnot
        have e3 : b3 = false := by cases b3 with | false => rfl | true => exact absurd ((h3 rfl).1) (by simp)
        obtain rfl := hA e3
        have k0d : W'.drew.cell? ⟨p2, 0, none⟩ = some (.slice A' (expand R).length c') := k0
        replace h0 := hide h0
        replace h1 := hide h1
        replace h2 := hide h2
        replace h3 := hide h3
        replace h4 := hide h4
        replace hA := hide hA
        replace hB := hide hB
        replace hC := hide hC
        refine wpOpIn_do rfl rfl (fun K' hK => ?_)
        go_simp
        refine hK _ _ ?_
        exact ⟨true, b1, b2, b3, b4, .slice A' (expand R).length c', y1, y2, rfl, rfl, (fun _ => rfl), (h1.out), (h2.out), (fun h => ⟨rfl, (h3.out h).2⟩), (h4.out), (hA.out), (hB.out), (hC.out)⟩
      · obtain rfl : b1 = false := by simpa using hnot
        have e2 : b2 = false := by cases b2 with | false => rfl | true => exact absurd ((h2 rfl).1) (by simp)
        have e3 : b3 = false := by cases b3 with | false => rfl | true => exact absurd ((h3 rfl).2.symm.trans e2) (by simp)
        obtain rfl := hA e3
        have k0d : W'.drew.cell? ⟨p2, 0, none⟩ = some (.slice A' (expand R).length c') := k0
        replace h0 := hide h0
        replace h1 := hide h1
        replace h2 := hide h2
        replace h3 := hide h3
        replace h4 := hide h4
        replace hA := hide hA
        replace hB := hide hB
        replace hC := hide hC
        refine wpOpIn_do rfl rfl (fun K' hK => ?_)
        go_simp
        refine hK _ _ ?_
        exact ⟨b0, true, b2, b3, b4, y0, .slice A' (expand R).length c', y2, rfl, rfl, (h0.out), (fun _ => rfl), (fun h => ⟨rfl, (h2.out h).2⟩), (h3.out), (h4.out), (hA.out), (hB.out), (hC.out)⟩
      · obtain rfl : b2 = false := by simpa using hnot
        have d1 : b1 = true := by simpa using hall { on := 1, ground := Ground.data } (by simp) rfl
        have hy := h1 d1
        subst hy
        have e3 : b3 = false := by cases b3 with | false => rfl | true => exact absurd ((h3 rfl).2) (by simp)
        obtain rfl := hA e3
        replace h0 := hide h0
        replace h1 := hide h1
        replace h2 := hide h2
        replace h3 := hide h3
        replace h4 := hide h4
        replace hA := hide hA
        replace hB := hide hB
        replace hC := hide hC
        refine wpOpIn_do rfl rfl (fun K' hK => ?_)
        go_simp
        refine ⟨trivial, ?_⟩
        gi_at_call 88
        refine (CallsIn.mono (callsIn_wide.2 (HLE.out _)) ?_)
        rintro e_ w5 ⟨rfl, rfl⟩
        try dsimp only
        refine hK _ _ ?_
        exact ⟨b0, b1, true, b3, b4, y0, .slice A' (expand R).length c', .int .i64 le, rfl, rfl, (h0.out), (h1.out), (fun _ => ⟨d1, rfl⟩), (fun h => ⟨(h3.out h).1, rfl⟩), (h4.out), (hA.out), (hB.out), (hC.out)⟩
      · obtain rfl : b3 = false := by simpa using hnot
        have d0 : b0 = true := by simpa using hall { on := 0, ground := Ground.data } (by simp) rfl
        have d2 : b2 = true := by simpa using hall { on := 2, ground := Ground.chain } (by simp) rfl
        have hy := h0 d0
        subst hy
        have e4 : b4 = false := by cases b4 with | false => rfl | true => exact absurd (h4 rfl) (by simp)
        obtain rfl := hA rfl
        have hr2c : W'.drew.cell? ⟨p, 0, none⟩ = some (.slice none 0 0) := hr1.cell
        have hr2f : W'.drew.frozen? ⟨p, 0, none⟩ = false := hr1.frozen
        replace h0 := hide h0
        replace h1 := hide h1
        replace h2 := hide h2
        replace h3 := hide h3
        replace h4 := hide h4
        replace hA := hide hA
        replace hB := hide hB
        replace hC := hide hC
        refine wpOpIn_do rfl rfl (fun K' hK => ?_)
        go_simp
        refine hK _ _ ?_
        exact ⟨b0, b1, b2, true, b4, .slice A' (expand R).length c', y1, y2, rfl, rfl, (h0.out), (h1.out), (h2.out), (fun _ => ⟨d0, d2⟩), (fun _ => rfl), (fun h => by cases h), (fun _ _ => rfl), (fun h => by rw [e4] at h; cases h)⟩
      · obtain rfl : b4 = false := by simpa using hnot
        have d2 : b2 = true := by simpa using hall { on := 2, ground := Ground.data } (by simp) rfl
        have d3 : b3 = true := by simpa using hall { on := 3, ground := Ground.chain } (by simp) rfl
        have hy := (h2 d2).2
        subst hy
        obtain rfl := hB d3 rfl
        have he2c : W'.cell? ⟨p1, 0, none⟩ = some (.int .i64 0) := he1.cell
        have he2f : W'.frozen? ⟨p1, 0, none⟩ = false := he1.frozen
        have hne : ¬ (p1 = p) := by omega
        replace h0 := hide h0
        replace h1 := hide h1
        replace h2 := hide h2
        replace h3 := hide h3
        replace h4 := hide h4
        replace hA := hide hA
        replace hB := hide hB
        replace hC := hide hC
        refine wpOpIn_do rfl rfl (fun K' hK => ?_)
        go_simp
        refine hK _ _ ?_
        exact ⟨b0, b1, b2, b3, true, y0, y1, .int .i64 le, rfl, rfl, (h0.out), (h1.out), (h2.out), (h3.out), (fun _ => d3), (fun h => by rw [d3] at h; cases h), (fun _ h => by cases h), (fun _ => rfl)⟩
    case fin =>
      rintro listed a w ⟨b0, b1, b2, b3, b4, y0, y1, y2, rfl, rfl, h0, h1, h2, h3, h4, hA, hB, hC⟩ hr
      have hb4 : b4 = true := by
        clear h0 h1 h2 h3 h4 hA hB hC
        revert b0 b1 b2 b3 b4
        decide +kernel
      obtain rfl := hC hb4
      clear h0 h1 h2 h3 h4 hA hB hC
      have hOW := hX.out
      obtain ⟨WE, hWE⟩ : ∃ WE, ((W'.setCell ⟨p, 0, none⟩ (.slice A' (expand R).length c')).setCell ⟨p1, 0, none⟩ (.int .i64 le)).drew = WE := ⟨_, rfl⟩
      have hr5 : Blk WE p 47 [.slice A' (expand R).length c'] := by rw [← hWE]; exact ((show Blk W' p 47 [.slice none 0 0] from hr1).set_ 0 (.slice A' (expand R).length c')).far (p := ⟨p1, 0, none⟩) (by show p ≠ p1; omega) (.int .i64 le)
      have he5 : Blk WE p1 27 [.int .i64 le] := by rw [← hWE]; exact ((show Blk W' p1 27 [.int .i64 0] from he1).far (p := ⟨p, 0, none⟩) (by show p1 ≠ p; omega) (.slice A' (expand R).length c')).set_ 0 (.int .i64 le)
      have hO5 : WE.ownsRow (p + 5) 3 1 (.slice A' (expand R).length c') (expand R).length (ints (expand R)) := by rw [← hWE]; exact own_far (own_far hOW (p := ⟨p, 0, none⟩) (by show p < p + 5; omega) _) (p := ⟨p1, 0, none⟩) (by show p1 < p + 5; omega) _
      have hD5 : WE.heap[D]? = some (.deferred (some [])) := by rw [← hWE]; exact (Below.heap_setCell _ ⟨p1, 0, none⟩ _ _ (by show D ≠ p1; omega)).trans ((Below.heap_setCell _ ⟨p, 0, none⟩ _ _ (by show D ≠ p; omega)).trans hKH.out)
      have hB5 : Below p w WE := by
        rw [← hWE]
        have h1 : Below p W2 W' := ⟨hkp.os, hkp.tape, hkp.output, hkp.size, fun k hk => hkp.block k ((hS k).2 ⟨by omega, by omega⟩)⟩
        exact (((hb2.trans h1).setCell (by show p ≤ p; omega) _).setCell (by show p ≤ p1; omega) _).drew
      rw [hWE]
      clear hWE hOW
      have v0 := hr5.cell 0
      have v1 := he5.cell 0
      simp only [List.getElem?_cons_zero] at v0 v1
      go_wp2
      have hne0 : ¬ (p1 = p) := by omega
      refine ⟨by simp, .inl ⟨_, _, rfl, run_takeDeferred hD5, ?_⟩⟩
      have w0 : (WE.putObj D (.deferred none)).cell? ⟨p, 0, none⟩ = some (.slice A' (expand R).length c') := cell_putObj v0 _ hD5 rfl
      have w1 : (WE.putObj D (.deferred none)).cell? ⟨p1, 0, none⟩ = some (.int .i64 le) := cell_putObj v1 _ hD5 rfl
      refine ⟨.tuple #[.slice A' (expand R).length c', .int .i64 le], by simp [results, Try.results65, go_sem, w0, w1]; try rfl, ⟨A', c', by rw [hle.out], (Rd.of_own hO5).putObj _ hD5 rfl⟩, ?_⟩
      rw [hp]
      refine hB5.trans ⟨rfl, rfl, rfl, by simp, fun k hk => World.putObj_heap_other (by omega)⟩

    -->DN
end Go.Proofs.Ytmdmkmfemhkfgaa
