/- A group of texts (tools/groups.txt): Marks Pow Iter2 Pow2 W27 Aw1 Aw2. No condition but those that each says. -/
import Derived.Test.YtnigmdkhecblnaaDoorMB
import Derived.Test.YtnigmdkhecblnaaDoorMD
import Derived.Test.YtnigmdkhecblnaaDoorME
import Derived.Shelf.RegionOpen
import Derived.Test.YtnigmdkhecblnaaDoorMF
import Derived.Test.YtnigmdkhecblnaaDoorMC
set_option linter.unusedSimpArgs false
set_option linter.unusedVariables false
/- A function that has run several loops over functions, one after the other: what it owes when it leaves. A plain law over any program. -/
namespace Go.Proofs.YtnigmdkhecblnaaDoor
open Go.RowKit

/-- Each loop over a function leaves a mark among what is deferred; none has collected a call. -/
def Marks (B : Nat) (Ds : List Nat) (w : World) : Prop := Ds.Nodup ∧ ∀ D ∈ Ds, B ≤ D ∧ w.heap[D]? = some (.deferred (some []))
theorem Marks.bel {B : Nat} {Ds : List Nat} {w w' : World} (h : Marks B Ds w) (hb : Below w.heap.size w w') : Marks B Ds w' :=
  ⟨h.1, fun D hD => ⟨(h.2 D hD).1, (hb.block D (Array.getElem?_eq_some_iff.1 (h.2 D hD).2).1).trans (h.2 D hD).2⟩⟩
def marked (Ds : List Nat) : List Deferred := Ds.map fun D => { target := .collected D, args := #[] }

theorem leaves_marks {F : Fence} {n : Nat} {P : Program} {fn : Func} {tmps : Array Value} {R : Ending → World → Prop} {B : Nat} {J : World → Prop} (hJ : Deaf B J) (hR : ∀ w, J w → LeavesInM F n P fn tmps R [] .returning w) :
    ∀ (Ds : List Nat) (w : World), Marks B Ds w → J w → LeavesInM F n P fn tmps R (marked Ds) .returning w
  | [], w, _, h => hR w h
  | D :: Ds, w, hm, h => by
    obtain ⟨h1, h2⟩ := hm.2 D (by simp)
    refine ⟨by simp, .inl ⟨D, _, rfl, run_takeDeferred h2, leaves_marks hJ hR Ds _ ⟨(List.nodup_cons.1 hm.1).2, fun D' hD' => ?_⟩ (hJ w D _ _ h h1 h2 rfl)⟩⟩
    obtain ⟨k1, k2⟩ := hm.2 D' (by simp [hD'])
    refine ⟨k1, (World.putObj_heap_other ?_).trans k2⟩
    rintro rfl
    exact (List.nodup_cons.1 hm.1).1 hD'
end Go.Proofs.YtnigmdkhecblnaaDoor

/- The powers of harmonics as plain sums; their bounds. No condition. -/
namespace Go.Proofs.YtnigmdkhecblnaaDoor

theorem gle_mulTurn {M : Int} {g : Int × Int} {k : Nat} (h : gle M g) (hk : k < 4) : gle M (gmul g (turnG k)) := by
  obtain ⟨a, b⟩ := g
  obtain ⟨h1, h2, h3, h4⟩ := h
  dsimp only at h1 h2 h3 h4
  have e : k = 0 ∨ k = 1 ∨ k = 2 ∨ k = 3 := by omega
  rcases e with rfl | rfl | rfl | rfl <;> (simp [gle, gmul, turnG, tabL]; omega)
theorem gle_add {M N : Int} {g h : Int × Int} (hg : gle M g) (hh : gle N h) : gle (M + N) (gadd g h) := by
  obtain ⟨g1, g2, g3, g4⟩ := hg
  obtain ⟨h1, h2, h3, h4⟩ := hh
  simp only [gle, gadd]; omega
theorem gle_harm {M : Int} {L : List (Int × Int)} (h : ∀ q, gle M (L.getD q (0, 0))) (n : Int) : ∀ k : Nat, gle (k * M) (harmN L n k)
  | 0 => by simp [gle, harmN]
  | k + 1 => by
    have e : ((k + 1 : Nat) : Int) * M = (k : Int) * M + M := by rw [Int.natCast_succ, Int.add_mul, Int.one_mul]
    rw [e]
    exact gle_add (gle_harm h n k) (gle_mulTurn (h k) (by omega))

/-- The samples of a block. -/
def blk4 (samples : List (Int × Int)) (j : Nat) : List (Int × Int) := [samples.getD (4 * j) (0, 0), samples.getD (4 * j + 1) (0, 0), samples.getD (4 * j + 2) (0, 0), samples.getD (4 * j + 3) (0, 0)]
/-- The harmonic of a block, and its power. -/
def harmB (samples : List (Int × Int)) (j n : Nat) : Int × Int := harmN (blk4 samples j) n 4
def pw (samples : List (Int × Int)) (j n : Nat) : Int := (harmB samples j n).1 * (harmB samples j n).1 + (harmB samples j n).2 * (harmB samples j n).2

theorem gle_getD {M : Int} {samples : List (Int × Int)} (hM : 0 ≤ M) (h : ∀ g ∈ samples, gle M g) (i : Nat) : gle M (samples.getD i (0, 0)) := by
  by_cases hi : i < samples.length
  · rw [show samples.getD i (0, 0) = samples[i] from by simp [List.getD, hi]]
    exact h _ (List.getElem_mem hi)
  · rw [show samples.getD i (0, 0) = (0, 0) from by simp [List.getD, hi]]
    simp only [gle]; omega
theorem gle_blk4 {M : Int} {samples : List (Int × Int)} (hM : 0 ≤ M) (h : ∀ g ∈ samples, gle M g) (j q : Nat) : gle M ((blk4 samples j).getD q (0, 0)) := by
  have hz : gle M ((0, 0) : Int × Int) := by simp only [gle]; omega
  match q with
  | 0 => exact gle_getD hM h _
  | 1 => exact gle_getD hM h _
  | 2 => exact gle_getD hM h _
  | 3 => exact gle_getD hM h _
  | q + 4 => exact hz
theorem sq_bd {x B : Int} (h1 : -B ≤ x) (h2 : x ≤ B) : 0 ≤ x * x ∧ x * x ≤ B * B := by
  refine ⟨?_, ?_⟩
  · rcases Int.le_total 0 x with h | h
    · exact Int.mul_nonneg h h
    · exact Int.mul_nonneg_of_nonpos_of_nonpos h h
  · have hB : 0 ≤ B := by omega
    have h3 : 0 ≤ (B - x) * (B + x) := Int.mul_nonneg (by omega) (by omega)
    have e : (B - x) * (B + x) = B * B - x * x := by rw [Int.sub_mul, Int.mul_add, Int.mul_add, Int.mul_comm x B]; omega
    omega
theorem harmB_bd {samples : List (Int × Int)} (h : ∀ g ∈ samples, gle 2000000 g) (j n : Nat) : gle 8000000 (harmB samples j n) := by
  have := gle_harm (gle_blk4 (by omega) h j) n 4
  exact this
theorem pw_bd {samples : List (Int × Int)} (h : ∀ g ∈ samples, gle 2000000 g) (j n : Nat) : 0 ≤ pw samples j n ∧ pw samples j n ≤ 128000000000000 := by
  obtain ⟨h1, h2, h3, h4⟩ := harmB_bd h j n
  have k1 := sq_bd h1 h2
  have k2 := sq_bd h3 h4
  unfold pw
  omega

/-- The power of a harmonic over some blocks of a frame. -/
def pwSum (samples : List (Int × Int)) (js : List Nat) (n : Nat) : Int := (js.map fun j => pw samples j n).sum
theorem pwSum_snoc (samples : List (Int × Int)) (js : List Nat) (j n : Nat) : pwSum samples (js ++ [j]) n = pwSum samples js n + pw samples j n := by simp [pwSum]
theorem pwSum_bd {samples : List (Int × Int)} (h : ∀ g ∈ samples, gle 2000000 g) (n : Nat) : ∀ js : List Nat, 0 ≤ pwSum samples js n ∧ pwSum samples js n ≤ 128000000000000 * js.length
  | [] => by simp [pwSum]
  | j :: js => by
    have h1 := pw_bd h j n
    have h2 := pwSum_bd h n js
    have e : pwSum samples (j :: js) n = pw samples j n + pwSum samples js n := by simp [pwSum]
    rw [e, List.length_cons]
    omega
theorem blockNs_length (us : List Bool) (m : Nat) : (blockNs us m).length ≤ m := by
  have := List.length_filter_le (fun j => allU us (4 * j)) (List.range m)
  simpa [blockNs] using this
end Go.Proofs.YtnigmdkhecblnaaDoor

/- A loop over a function whose round makes variables of its own before its body. A plain law over any program; no condition. -/
namespace Go.Proofs.YtnigmdkhecblnaaDoor
open Go.RowKit

/-- The same where the round's assignment makes variables of its own. THE STATEMENT 'for .. := range g { .. }', its body never leaving early, in a function that runs in no round. -/
theorem range_law2 {α : Type} {P : Program} {n : Nat} {g : Operand} {ps : Array Tmp} {assign body : Code} {Q : Exit → Act → World → Prop} {a : Act} {w : World}
    {gf : Nat} {lb : Array Value} (hg : a.eval g = .func (.func gf) #[] lb) (eg : ∀ args w, (callFunc gf args).run P w = .ok (.enter gf args) w)
    {V : α → Array Value → World → Prop} {xs : List α} {S : Nat → Prop} (hseq : Iter P (n - 1) gf lb V xs S w) (hS : ∀ k, S k → k < w.heap.size)
    (hps : ∀ x args W, V x args W → args.size = ps.size) 
    (I : List α → World → Prop) (hI : ∀ pre, Stable (I pre)) (hI' : ∀ pre, Deaf w.heap.size (I pre)) (h0 : I [] w) (Z : α → Act → World → Prop) (hZ : ∀ x a, Deaf w.heap.size (Z x a))
    (hassign : ∀ (l : Nat) (x : α) (args : Array Value) (W : World) (K : Act → World → Prop), V x args W → w.heap.size ≤ W.heap.size → (∀ a₁ W', Below W.heap.size W W' → Z x a₁ W' → K a₁ W') →
      assign.wpIn (Fence.wide.inRound l) (n - 1 - 1) P (Exit.then K (fun _ _ _ => False)) { tmps := (ps.zip args).foldl (fun t (p, v) => t.setIfInBounds p v) a.tmps, defers := [] } W)
    (hbody : ∀ (l : Nat) (pre : List α) (x : α) (rest : List α) (a₁ : Act) (W : World), xs = pre ++ x :: rest → I pre W → Z x a₁ W → w.heap.size ≤ W.heap.size →
      body.wpIn (Fence.wide.inRound l) (n - 1 - 1) P (endsRound S I (pre ++ [x]) W) a₁ W)
    (hdone : ∀ (D : Nat) (W : World), w.heap.size ≤ D → I xs W → W.heap[D]? = some (.deferred (some [])) → Q .normal { a with defers := { target := .collected D, args := #[] } :: a.defers } W) :
    (Code.rangeFunc g ps assign body).wpIn Fence.wide n P Q a w := by
  refine wpIn_rangeFunc fun fn _ => ?_
  obtain ⟨rec, hrec⟩ : ∃ rec : LoopState → Loop, rec = fun st => { state := st, pending := none, fn, tmps := a.tmps, params := ps, assign, body, defers := w.heap.size } := ⟨_, rfl⟩
  obtain ⟨W1, hW1⟩ : ∃ W1, (w.alloc (.deferred (some []))).alloc (.loop (rec .ready)) = W1 := ⟨_, rfl⟩
  have hbel : Below w.heap.size w W1 := by rw [← hW1]; exact ((Below.refl _ w).alloc (Nat.le_refl _) _).alloc (by simp) _
  have hD1 : W1.heap[w.heap.size]? = some (.deferred (some [])) := by
    rw [← hW1]; exact (Below.heap_alloc _ _ _ (by simp)).trans (World.alloc_heap_new w _)
  have hL1 : W1.heap[w.heap.size + 1]? = some (.loop (rec .ready)) := by
    rw [← hW1]; have := World.alloc_heap_new (w.alloc (.deferred (some []))) (.loop (rec .ready)); rwa [World.size_alloc] at this
  refine ⟨w.heap.size + 1, [{ target := .collected w.heap.size, args := #[] }], W1, { target := .fn (.func gf) lb, args := #[.func (.yield (w.heap.size + 1)) #[] #[]] }, W1, gf,
    #[.func (.yield (w.heap.size + 1)) #[] #[]] ++ lb, W1, ?_, ?_, fun _ _ => trivial, ?_, fun h => (by cases h), ?_⟩
  · rw [← hW1, hrec]; exact run_enterLoop_outer _ _ _ _ _
  · simp only [resolve, hg]
    simp [go_sem]
  · simp [invoke, go_sem, eg]
  · have hrun := hseq (w.heap.size + 1)
      (fun pre W => (I pre W ∧ w.heap.size + 1 < W.heap.size) ∧ W.heap[w.heap.size + 1]? = some (.loop (rec .ready)) ∧ W.heap[w.heap.size]? = some (.deferred (some [])))
      W1 (Keep.of_below hbel hS)
      (fun pre W W' ⟨⟨h1, h2⟩, h3, h4⟩ hb => ⟨⟨hI pre W W' h1 hb, Nat.lt_of_lt_of_le h2 hb.size⟩, (hb.block _ h2).trans h3, (hb.block _ (by omega)).trans h4⟩)
      ?_ ⟨⟨hI _ _ _ h0 hbel, (Array.getElem?_eq_some_iff.1 hL1).1⟩, hL1, hD1⟩
    · refine hrun.mono ?_
      rintro e W2 ⟨⟨v, rfl⟩, ⟨hi, _⟩, hl, hd⟩
      have he := run_endLoop (P := P) hl (by rw [hrec]; simp)
      rw [hrec] at he hl
      exact ⟨none, _, he, hdone _ _ (Nat.le_refl _) (hI' _ _ _ _ _ hi (by omega) hl rfl) ((World.putObj_heap_other (by omega)).trans hd)⟩
    · rintro pre x rest W args hxs ⟨⟨hi, hlt⟩, hl, hd⟩ hv
      have hy := run_yield (P := P) (args := args) hl (by rw [hrec]; exact hps x args W hv)
      rw [hrec] at hy
      refine ⟨fn, _, assign, body, hy, roundIn_of_wpIn trivial (hassign _ x args W _ hv (by omega) fun a₁ W' hbW hz => ?_)⟩
      have hlW' : W'.heap[w.heap.size + 1]? = some (.loop (rec .ready)) := (hbW.block _ hlt).trans hl
      have hdW' : W'.heap[w.heap.size]? = some (.deferred (some [])) := (hbW.block _ (by omega)).trans hd
      have hiW' : I pre W' := hI _ _ _ hi hbW
      have hltW' : w.heap.size + 1 < W'.heap.size := Nat.lt_of_lt_of_le hlt hbW.size
      have hkW' : Keep S W W' := Keep.of_below hbW fun k hk => by have := hS k hk; omega
      have hbusy : ∃ W3, W'.putObj (w.heap.size + 1) (.loop { rec .ready with state := .busy }) = W3 := ⟨_, rfl⟩
      obtain ⟨W3, hW3⟩ := hbusy
      have hnS : ¬ S (w.heap.size + 1) := fun h => by have := hS _ h; omega
      have hk3 : Keep S W W3 := by rw [← hW3]; exact hkW'.trans (Keep.putObj _ _ _ hnS)
      have hi3 : I pre W3 := by rw [← hW3]; exact hI' _ _ _ _ _ hiW' (by omega) hlW' rfl
      have hz3 : Z x a₁ W3 := by rw [← hW3]; exact hZ _ _ _ _ _ _ hz (by omega) hlW' rfl
      have hl3 : W3.heap[w.heap.size + 1]? = some (.loop { rec .ready with state := .busy }) := by rw [← hW3]; exact World.putObj_heap_same hltW'
      have hd3 : W3.heap[w.heap.size]? = some (.deferred (some [])) := by rw [← hW3]; exact (World.putObj_heap_other (by omega)).trans hdW'
      have hsz : w.heap.size ≤ W3.heap.size := by rw [← hW3]; simp; omega
      refine ⟨W3, by rw [← hW3]; exact run_beginRound hlW' (by rw [hrec]), ?_⟩
      refine wpIn_mono (hbody _ pre x rest a₁ W3 hxs hi3 hz3 hsz) ?_
      rintro e a4 W4 hp
      cases e with
      | normal =>
        obtain ⟨ho, hk, hi4⟩ := hp
        have hl4 := ho.same _ _ hl3 rfl
        have hd4 := ho.same _ _ hd3 rfl
        have he := run_endRound (P := P) none hl4
        have hrr : ({ ({ rec .ready with state := .busy } : Loop) with state := .ready, pending := none } : Loop) = rec .ready := by rw [hrec]
        simp only [Option.isNone_none, if_true, hrr] at he
        have hl4' : w.heap.size + 1 < W4.heap.size := (Array.getElem?_eq_some_iff.1 hl4).1
        exact ⟨_, _, he, rfl, ⟨⟨hI' _ _ _ _ _ hi4 (by omega) hl4 rfl, by simpa using hl4'⟩, World.putObj_heap_same hl4', (World.putObj_heap_other (by omega)).trans hd4⟩,
          hk3.trans (hk.trans (Keep.putObj _ _ _ hnS))⟩
      | ret => exact hp.elim
      | exit id => exact hp.elim
      | goto t => exact hp.elim
      | panic ch => exact hp.elim
      | outgrown => exact hp.elim
end Go.Proofs.YtnigmdkhecblnaaDoor

/- The powers of harmonics in frames as plain sums. No condition. -/
namespace Go.Proofs.YtnigmdkhecblnaaDoor
open Go.RowKit

def Fr.pows (f : Fr) (n : Nat) : Int := pwSum f.samples (blockNs (usableL f.limit f.samples f.gaps) (f.samples.length / 4)) n
def powSum (l : List Fr) (n : Nat) : Int := (l.map fun f => f.pows n).sum
def pow4 (t : Nat → Int) : List Value := [.int .i64 (t 0), .int .i64 (t 1), .int .i64 (t 2), .int .i64 (t 3)]

theorem Fr.pows_bd {f : Fr} (h : f.err = 0) (n : Nat) : 0 ≤ f.pows n ∧ f.pows n ≤ 2048000000000000 := by
  obtain ⟨hh, hsamp, _⟩ := frameE_zero h
  obtain ⟨_, _, l1, l2, n1, n2⟩ := headE_zero hh
  have h1 := pwSum_bd (samples := f.samples) (fun q hq => by have := hsamp q hq; simp only [gle]; omega) n (blockNs (usableL f.limit f.samples f.gaps) (f.samples.length / 4))
  have h2 := blockNs_length (usableL f.limit f.samples f.gaps) (f.samples.length / 4)
  unfold Fr.pows
  omega
theorem powSum_bd (n : Nat) : ∀ {l : List Fr}, (∀ f ∈ l, f.err = 0) → 0 ≤ powSum l n ∧ powSum l n ≤ 2048000000000000 * l.length
  | [], _ => by simp [powSum]
  | f :: l, h => by
    have h1 := Fr.pows_bd (h f (by simp)) n
    have h2 := powSum_bd n (l := l) (fun g hg => h g (by simp [hg]))
    have e : powSum (f :: l) n = f.pows n + powSum l n := by simp [powSum]
    rw [e, List.length_cons]
    omega

/-- The powers after the first m harmonics of a block. -/
def tm (t : Nat → Int) (samples : List (Int × Int)) (j m n : Nat) : Int := if n < m then t n + pw samples j n else t n
theorem pow4_set (t : Nat → Int) (samples : List (Int × Int)) (j m : Nat) (hm : m < 4) : (pow4 (tm t samples j m)).set m (.int .i64 (t m + pw samples j m)) = pow4 (tm t samples j (m + 1)) := by
  have e : m = 0 ∨ m = 1 ∨ m = 2 ∨ m = 3 := by omega
  rcases e with rfl | rfl | rfl | rfl <;> rfl
theorem pow4_at (t : Nat → Int) (m : Nat) (hm : m < 4) : (pow4 t)[m]? = some (.int .i64 (t m)) := by
  have e : m = 0 ∨ m = 1 ∨ m = 2 ∨ m = 3 := by omega
  rcases e with rfl | rfl | rfl | rfl <;> rfl

end Go.Proofs.YtnigmdkhecblnaaDoor

/- Contracts: the powers of harmonics in frames. -/
namespace Go.Proofs.YtnigmdkhecblnaaDoor
open Go.RowKit
set_option maxRecDepth 100000
attribute [local go_sem] run_store_complex
attribute [local go_sem] Oper.semAt_some

theorem Tab.set {w : World} (h : Tab w) {q : Addr} (hq : q.block ≠ 0) (u : Value) : Tab (w.setCell q u) :=
  ⟨by have := h.1; simpa [World.setCell] using this, fun i hi => (World.cell?_of_block (Below.heap_setCell w q u 0 (Ne.symm hq))).trans (h.2 i hi)⟩

set_option maxHeartbeats 8000000 in
theorem powersOf_c (l : List Fr) (F : Option Addr) (c : Nat) (w : World) (hT : Tab w) (hr : Rd w F (l.map Fr.row).flatten) (hok : ∀ f ∈ l, f.ok w) (hl : l.length ≤ 1000) :
    Calls Tryd.prog 15 #[.slice F l.length c] w fun r w' =>
      ((framesE l ≠ 0 ∧ r = .returned (.tuple #[.agg #[.int .i64 0, .int .i64 0, .int .i64 0, .int .i64 0], .int .i64 (framesE l)])) ∨
        (framesE l = 0 ∧ r = .returned (.tuple #[.agg #[.int .i64 (powSum l 0), .int .i64 (powSum l 1), .int .i64 (powSum l 2), .int .i64 (powSum l 3)], .int .i64 0]))) ∧ Below w.heap.size w w' := by
  have HC := hide (checkedFrames_c l F c (w.alloc (.cells #[.int .i64 0, .int .i64 0, .int .i64 0, .int .i64 0] 38)) (hr.bel ((Below.refl _ _).alloc (Nat.le_refl _) _)) (fun f h => (hok f h).bel ((Below.refl _ _).alloc (Nat.le_refl _) _)) hl)
  by_cases he : framesE l = 0
  · have HCk : Hid (Calls Tryd.prog 51 #[.slice F l.length c] (w.alloc (.cells #[.int .i64 0, .int .i64 0, .int .i64 0, .int .i64 0] 38)) fun r w' => (∃ (g : Nat) (xs : List (Fr × Option Addr × Nat)), r = .returned (.tuple #[.slice (some ⟨g, 0, none⟩) l.length l.length, .int .i64 0]) ∧ xs.map Prod.fst = l ∧ Blk w' g 81 (xs.map Fr.row5).flatten ∧ ∀ x ∈ xs, Fr.ok5 w' x) ∧ Below (w.alloc (.cells #[.int .i64 0, .int .i64 0, .int .i64 0, .int .i64 0] 38)).heap.size (w.alloc (.cells #[.int .i64 0, .int .i64 0, .int .i64 0, .int .i64 0] 38)) w') :=
      HC.out.mono fun r w' hx => by
        obtain ⟨h, hb⟩ := hx
        refine ⟨?_, hb⟩
        rcases h with ⟨h, _⟩ | ⟨_, h⟩
        · exact absurd he h
        · exact h
    have HE := hide he
    have HOK := hide hok
    clear he HC hok
    refine calls_marks 5 Tryd.func15 rfl ?_
    simp only [Tryd.ntmps15, List.size_toArray, List.length_cons, List.length_nil, Nat.reduceAdd, Nat.reduceSub, Array.replicate_succ, Array.replicate_zero, List.push_toArray, List.append_toArray, List.nil_append, List.cons_append]
    go_upto_region 6 with (first | (go_at_call 51; refine HCk.out.mono ?_; rintro e w1 ⟨⟨g, xs, rfl, hxl, hG, hx5⟩, hb1⟩))
    generalize hW : w1.alloc (.cells #[.int .i64 0, .int .i64 0, .int .i64 0, .int .i64 0] 38) = W
    have hBW : Below w1.heap.size w1 W := by rw [← hW]; exact (Below.refl _ _).alloc (Nat.le_refl _) _
    have hQW : Blk W w1.heap.size 38 (pow4 fun _ => 0) := by rw [← hW]; exact Blk.new w1 _ [_, _, _, _]
    clear hW
    refine wp_loop (fun a' w' => ∃ (k : Nat) (Ds : List Nat) (u8 u10 u11 u24 u25 u26 u27 u28 u29 u30 u31 u32 u33 u34 u35 u36 u37 u38 u39 u40 u41 u42 u43 u44 u45 : Value), a' = { tmps := #[.slice F l.length c, undef, .pointer (some ⟨w.heap.size, 0, none⟩), .int .i64 0, .slice (some ⟨g, 0, none⟩) l.length l.length, .int .i64 0, .pointer (some ⟨w1.heap.size, 0, none⟩), undef, u8, undef, u10, u11,
        .tuple #[.slice (some ⟨g, 0, none⟩) l.length l.length, .int .i64 0], .slice F l.length c, .tuple #[.slice (some ⟨g, 0, none⟩) l.length l.length, .int .i64 0], .slice (some ⟨g, 0, none⟩) l.length l.length, .int .i64 0, .int .i64 0,
        .bool false, undef, undef, .slice (some ⟨g, 0, none⟩) l.length l.length, .int .i64 l.length, .int .i64 k, u24, u25, u26, u27, u28, u29, u30, u31, u32, u33, u34, u35, u36, u37, u38, u39, u40, u41, u42, u43, u44, u45, undef], defers := marked Ds } ∧ k ≤ l.length ∧ Marks (w1.heap.size + 1) Ds w' ∧ Below w1.heap.size w1 w' ∧ Blk w' w1.heap.size 38 (pow4 (powSum (l.take k))))
      (fun a' _ => l.length - (intOf (a'.tmps.getD 23 undef)).toNat) ?_ ?_
    · exact ⟨0, [], _, _, _, _, _, _, _, _, _, _, _, _, _, _, _, _, _, _, _, _, _, _, _, _, _, rfl, Nat.zero_le _, ⟨List.nodup_nil, fun D h => absurd h (by simp)⟩, hBW, hQW⟩
    · rintro a' wr ⟨k, Ds, u8, u10, u11, u24, u25, u26, u27, u28, u29, u30, u31, u32, u33, u34, u35, u36, u37, u38, u39, u40, u41, u42, u43, u44, u45, rfl, hk, hMk, hbr, hQr⟩
      by_cases hlt : k < l.length
      · have hxn : xs.length = l.length := by rw [← hxl]; simp
        have hkx : k < xs.length := by omega
        have hgl : g < w1.heap.size := hG.lt
        have hGr := hG.bel hbr
        have hrows : ∀ r ∈ xs.map Fr.row5, r.length = 5 := fun r h => by obtain ⟨x, _, rfl⟩ := List.mem_map.1 h; rfl
        have hki : k < (xs.map Fr.row5).length := by simpa using hkx
        have y : ∀ j, j < 5 → wr.cell? ⟨g, k * 5 + j, none⟩ = (Fr.row5 xs[k])[j]? := fun j hj => by rw [hGr.cell, flat_at hrows k hki j hj, List.getElem_map]
        have hx := hx5 _ (List.getElem_mem hkx)
        have hlk : l[k] = (xs[k]).1 := by simp only [← hxl, List.getElem_map]
        have hfo := HOK.out _ (List.getElem_mem hlt)
        have HTK : Hid (l.take (k + 1) = l.take k ++ [(xs[k]).1]) := by rw [← hlk]; exact List.take_succ_eq_append_getElem hlt
        rw [hlk] at hfo
        generalize xs[k] = x at y hx hfo HTK
        obtain ⟨⟨gain, limit, A, cA, samples, G, cG, gaps⟩, U, cU⟩ := x
        obtain ⟨hv0, hU⟩ := hx
        obtain ⟨o1, o2, o3, o4⟩ := hfo
        dsimp only [Fr.err] at hv0 hU o1 o2 o3 o4
        have y0 := y 0 (by omega)
        have y1 := y 1 (by omega)
        have y2 := y 2 (by omega)
        have y3 := y 3 (by omega)
        have y4 := y 4 (by omega)
        simp only [Fr.row5, List.getElem?_cons_zero, List.getElem?_cons_succ, Nat.add_zero] at y0 y1 y2 y3 y4
        obtain ⟨hh, hsamp, _⟩ := frameE_zero hv0
        obtain ⟨_, _, l1, l2, n1, n2⟩ := headE_zero hh
        have HSM : Hid (∀ q ∈ samples, gle 2000000 q) := fun q hq => by
          have := hsamp q hq
          simp only [gle]; omega
        have HXL := hide hxl
        have HX5 := hide hx5
        have HU := hide hU
        have HO1 := hide o1
        clear hsamp hh y hrows hki hGr hlk hx5 hxl hU o1 o2 hv0
        have hgr : g < wr.heap.size := Nat.lt_of_lt_of_le hgl hbr.size
        have ix0 : (0 : Int) ≤ (k : Int) := by omega
        have ix1 : (k : Int) < (l.length : Int) := by omega
        go_wp2_with (first | (go_at_call 42; refine (blocks_c gain limit A G U samples.length cA gaps.length cG samples.length cU _).mono ?_; rintro e W2 ⟨rfl, hBn, hb2⟩))
        have hsz2 : wr.heap.size + 2 ≤ W2.heap.size := by have := hBn.lt; simp at this; omega
        have hb12 : Below wr.heap.size wr W2 := tr ((Below.refl wr.heap.size wr).alloc (Nat.le_refl _) _) hb2 (by simp)
        have hBn2 : Blk W2 (wr.heap.size + 1) 81 [.int .i64 gain, .int .i64 limit, .slice A samples.length cA, .slice G gaps.length cG, .slice U samples.length cU] := by simpa using hBn
        clear hBn hb2 y0 y1 y2 y3 y4
        have hqr := hQr.lt
        have hQ2 := hQr.bel hb12
        have hU2 : Rd W2 U (bls (usableL limit samples gaps)) := (HU.out.1.bel hbr).bel hb12
        have hbw1 : Below w.heap.size w w1 := tr ((Below.refl _ _).alloc (Nat.le_refl _) _) hb1 (by simp)
        have hA2 : Rd W2 A (gs samples) := ((HO1.out.bel hbw1).bel hbr).bel hb12
        obtain ⟨S, hS⟩ : ∃ S : Nat → Prop, ∀ j, S j ↔ j < W2.heap.size ∧ j ≠ w1.heap.size := ⟨fun j => j < W2.heap.size ∧ j ≠ w1.heap.size, fun _ => Iff.rfl⟩
        have hSA : ∀ b off, A = some ⟨b, off, none⟩ → S b := fun b off e => by
          obtain ⟨b', off', e', hlt', _⟩ := HO1.out (by intro e2; have := congrArg List.length e2; rw [gs_length] at this; simp at this; omega)
          rw [e] at e'
          injection e' with e'
          injection e' with e' _
          subst e'
          exact (hS _).2 ⟨by have := hbw1.size; have := hbr.size; omega, by have := hbw1.size; omega⟩
        have hSU : ∀ b off, U = some ⟨b, off, none⟩ → S b := fun b off e => by
          obtain ⟨b', off', e', hlt', _⟩ := HU.out.1 (by intro e2; have := congrArg List.length e2; rw [bls_length, show (usableL limit samples gaps).length = samples.length from by simp [usableL], List.length_nil] at this; omega)
          rw [e] at e'
          injection e' with e'
          injection e' with e' _
          subst e'
          exact (hS _).2 ⟨by have := hbr.size; omega, by omega⟩
        refine wpIn_wide.1 (range_law2 (n := 5) (α := Nat) rfl Tryd.call69 (blocks_iter 4 (wr.heap.size + 1) (by omega) gain limit A G U cA cG cU gaps.length samples (usableL limit samples gaps) S ((hS _).2 ⟨by omega, by omega⟩) hSA hSU W2 hBn2 hA2 hU2 (by simp [usableL]) (by omega) HSM.out)
          (fun j hj => ((hS j).1 hj).1) (fun x args W h => by obtain ⟨_, _, _, _, rfl, _⟩ := h; rfl)
          (fun pre W => Blk W w1.heap.size 38 (pow4 fun n => powSum (l.take k) n + pwSum samples pre n) ∧ Keep S W2 W)
          (fun pre W W' ⟨h1, h2⟩ hb => ⟨h1.bel hb, h2.trans (Keep.of_below hb fun j hj => by have h3 := h2.size; have := ((hS j).1 hj).1; omega)⟩)
          (fun pre W l' o o' ⟨h1, h2⟩ hB hl' ho => ⟨(World.putObj_heap_other (by omega)).trans h1, h2.trans (Keep.putObj _ _ _ fun hj => by have := ((hS l').1 hj).1; omega)⟩)
          ⟨by simpa [pwSum] using hQ2, Keep.refl _ _⟩
          (fun j a₁ W => ∃ (bb : Nat) (v0 v1 v2 v3 : Value), a₁ = { tmps := #[.slice F l.length c, undef, .pointer (some ⟨w.heap.size, 0, none⟩), .int .i64 0, .slice (some ⟨g, 0, none⟩) l.length l.length, .int .i64 0, .pointer (some ⟨w1.heap.size, 0, none⟩), undef, .pointer (some ⟨wr.heap.size, 0, none⟩), undef, .pointer (some ⟨bb, 0, none⟩), u11,
            .tuple #[.slice (some ⟨g, 0, none⟩) l.length l.length, .int .i64 0], .slice F l.length c, .tuple #[.slice (some ⟨g, 0, none⟩) l.length l.length, .int .i64 0], .slice (some ⟨g, 0, none⟩) l.length l.length, .int .i64 0, .int .i64 0,
            .bool false, undef, undef, .slice (some ⟨g, 0, none⟩) l.length l.length, .int .i64 l.length, .int .i64 k, .bool true, .pointer (some ⟨g, k * 5, none⟩), (.agg #[.int .i64 gain, .int .i64 limit, .slice A samples.length cA, .slice G gaps.length cG, .slice U samples.length cU]), (.agg #[.int .i64 gain, .int .i64 limit, .slice A samples.length cA, .slice G gaps.length cG, .slice U samples.length cU]), .func (.func 69) #[] #[.pointer (some ⟨wr.heap.size + 1, 0, none⟩)], .int .i64 (4 * (j : Int)), .agg #[v0, v1, v2, v3], u31, u32, u33, u34, u35, u36, u37, u38, u39, u40, u41, u42, u43, u44, u45, undef], defers := [] } ∧ W2.heap.size ≤ bb ∧ Blk W bb 92 [v0, v1, v2, v3] ∧ CI v0 (samples.getD (4 * j) (0, 0)) ∧ CI v1 (samples.getD (4 * j + 1) (0, 0)) ∧ CI v2 (samples.getD (4 * j + 2) (0, 0)) ∧ CI v3 (samples.getD (4 * j + 3) (0, 0)))
          ?hZ ?assign ?body ?done)
        case hZ =>
          rintro j a W l' o o' ⟨bb, v0, v1, v2, v3, h1, h2, h3, h4⟩ hl' ho hc
          exact ⟨bb, v0, v1, v2, v3, h1, h2, (World.putObj_heap_other (fun e => by subst e; rw [show W.heap[bb]? = _ from h3] at ho; cases ho; cases hc)).trans h3, h4⟩
        case assign =>
          rintro l' j args W K ⟨v0, v1, v2, v3, rfl, q0, q1, q2, q3⟩ hge hK
          obtain ⟨x0, y0, rfl, fx0, fy0⟩ := q0
          obtain ⟨x1, y1, rfl, fx1, fy1⟩ := q1
          obtain ⟨x2, y2, rfl, fx2, fy2⟩ := q2
          obtain ⟨x3, y3, rfl, fx3, fy3⟩ := q3
          gi_wp2
          exact hK _ _ ((Below.refl _ _).alloc (Nat.le_refl _) _) ⟨W.heap.size, .complex .f64 x0 y0, .complex .f64 x1 y1, .complex .f64 x2 y2, .complex .f64 x3 y3, rfl, hge, Blk.new W _ [_, _, _, _], ⟨x0, y0, rfl, fx0, fy0⟩, ⟨x1, y1, rfl, fx1, fy1⟩, ⟨x2, y2, rfl, fx2, fy2⟩, ⟨x3, y3, rfl, fx3, fy3⟩⟩
        case body =>
          rintro l' pre j rest a₁ W' hxs ⟨hQW, hkp⟩ ⟨bb, v0, v1, v2, v3, rfl, hbb, hB4, q0, q1, q2, q3⟩ hge
          have hbd : pre.length ≤ 16 := by
            have h1 := congrArg List.length hxs
            have h2 := blockNs_length (usableL limit samples gaps) (samples.length / 4)
            simp at h1
            omega
          obtain ⟨t, ht⟩ : ∃ t : Nat → Int, (fun n => powSum (l.take k) n + pwSum samples pre n) = t := ⟨_, rfl⟩
          have HTB : Hid (∀ n, 0 ≤ t n ∧ t n ≤ 4000000000000000000) := fun n => by
            have h1 := powSum_bd n (l := l.take k) (fun f hf => by
              have hf' : f ∈ xs.map Prod.fst := by rw [HXL.out]; exact List.mem_of_mem_take hf
              obtain ⟨y, hy, rfl⟩ := List.mem_map.1 hf'
              exact (HX5.out y hy).1)
            have h2 := pwSum_bd HSM.out n pre
            have h3 : (l.take k).length ≤ 1000 := by simp; omega
            rw [← ht]
            show 0 ≤ powSum (l.take k) n + pwSum samples pre n ∧ powSum (l.take k) n + pwSum samples pre n ≤ 4000000000000000000
            omega
          have HPS : Hid (pow4 (fun n => powSum (l.take k) n + pwSum samples (pre ++ [j]) n) = pow4 (tm t samples j 4)) := by
            show _ = _
            simp only [pow4, tm, ← ht, pwSum_snoc, Int.add_assoc]
            rfl
          rw [ht] at hQW
          clear ht
          have hTW : Tab W' := by
            have h1 : Tab w1 := hT.bel hbw1
            exact ⟨by have := h1.1; have := hbr.size; omega, fun i hi => (hkp.cell (p := ⟨0, i, none⟩) ((hS 0).2 ⟨by have := h1.1; have := hbr.size; omega, by have := h1.1; have := hT.1; have := hbw1.size; omega⟩)).trans (((h1.bel hbr).bel hb12).2 i hi)⟩
          have hz0 := hB4.cell 0
          gi_wp2
          gi_loopw [31] (fun i wx => ∃ m : Nat, m ≤ 4 ∧ i = .int .i64 m ∧ KeepsOthers W' wx ∧ Keep S W' wx ∧ Blk wx w1.heap.size 38 (pow4 (tm t samples j m)) ∧ Blk wx bb 92 [v0, v1, v2, v3] ∧ Tab wx) (fun i _ => 4 - (intOf i).toNat)
          case atStart => exact ⟨0, Nat.zero_le _, rfl, ⟨Nat.le_refl _, fun _ _ h _ => h⟩, Keep.refl _ _, hQW, hB4, hTW⟩
          case round =>
            obtain ⟨m, hm, rfl, hko, hkx', hQx, hBx, hTx⟩ := hrel
            by_cases hlt4 : m < 4
            · have y0 := (hQx.cell m).trans (pow4_at _ m hlt4)
              have c0 := hBx.cell 0
              have c1 := hBx.cell 1
              have c2 := hBx.cell 2
              have c3 := hBx.cell 3
              simp only [List.getElem?_cons_zero, List.getElem?_cons_succ] at c0 c1 c2 c3
              have e4 : tm t samples j m m = t m := by simp [tm]
              rw [e4] at y0
              have hTm := HTB.out m
              have hpw := pw_bd HSM.out j m
              have hhb := harmB_bd HSM.out j m
              have ix0' : (0 : Int) ≤ (m : Int) := by omega
              have ix1' : (m : Int) < 4 := by omega
              have b0 : gle 2000000 (samples.getD (4 * j) (0, 0)) := gle_getD (by omega) HSM.out _
              have b1 : gle 2000000 (samples.getD (4 * j + 1) (0, 0)) := gle_getD (by omega) HSM.out _
              have b2 : gle 2000000 (samples.getD (4 * j + 2) (0, 0)) := gle_getD (by omega) HSM.out _
              have b3 : gle 2000000 (samples.getD (4 * j + 3) (0, 0)) := gle_getD (by omega) HSM.out _
              have HH : Hid (Calls Tryd.prog 53 #[.agg #[v0, v1, v2, v3], .int .i64 m] wr.drew fun r w' => (∃ v, r = .returned v ∧ CI v (harmB samples j m)) ∧ Below wr.drew.heap.size wr.drew w') :=
                harmonic_c v0 v1 v2 v3 _ _ _ _ m 2000000 wr.drew (hTx.bel (Below.refl _ _).drew) q0 q1 q2 q3 b0 b1 b2 b3 (by omega) (by omega) (by omega) (by omega)
              clear b0 b1 b2 b3
              have HPW : Hid (pw samples j m = (harmB samples j m).1 * (harmB samples j m).1 + (harmB samples j m).2 * (harmB samples j m).2) := rfl
              have HPS4 := hide (pow4_set t samples j m hlt4)
              obtain ⟨⟨ha, hb⟩, hab⟩ : ∃ h, harmB samples j m = h := ⟨_, rfl⟩
              rw [hab] at HH HPW hhb
              have HPWo : pw samples j m = ha * ha + hb * hb := HPW.out
              obtain ⟨r1, r2, r3, r4⟩ := hhb
              have s1 := sq_bd r1 r2
              have s2 := sq_bd r3 r4
              dsimp only at r1 r2 r3 r4 s1 s2
              have hqx := hQx.lt
              have HQX := hide hQx
              have HBX := hide hBx
              have yf := hQx.frozen m
              have hwl : IntKind.i64.wrap (t m + (ha * ha + hb * hb)) = t m + (ha * ha + hb * hb) := by simp (disch := omega) only [IntWalk.i64_in]
              clear hab hQx hBx HPW
              have hfol : Tryd.prog.follows .mixedOrders = true := by kernel_rfl
              clear HPS HTB HSM HXL HX5 HU HO1 HTK HOK HCk HE hMk hQW hB4 hTW hxs hz0 hSA hSU hA2 hU2 hQ2 hQr hBn2 hk hlt hkx hxn ix0 ix1 hbd
              gi_wp2
              gi_region_with_o (first
                | (refine ⟨trivial, ?_⟩; gi_at_call 53; refine (CallsIn.mono (CallsIn.inRound l' (callsIn_wide.2 HH.out)) ?_); rintro e w3 ⟨⟨vh, rfl, hvh⟩, hb3⟩; have y3 := (hb3.cell (p := ⟨w1.heap.size, m, none⟩) hqx).trans y0)
                | (refine ⟨trivial, ?_⟩; gi_at_call 44; refine (CallsIn.mono (CallsIn.inRound l' (callsIn_wide.2 (gauss_c vh ha hb hvh w3 (by omega) (by omega)))) ?_); rintro e w4 ⟨rfl, hb4⟩; have y4 := (hb4.cell (p := ⟨w1.heap.size, m, none⟩) (by have := hb3.size; show w1.heap.size < w3.heap.size; exact Nat.lt_of_lt_of_le hqx this)).trans y3)
                | (refine ⟨trivial, ?_⟩; gi_at_call 52; refine (CallsIn.mono (CallsIn.inRound l' (callsIn_wide.2 (squareOf_c ha hb w4 s1.1 s2.1 (by omega)))) ?_); rintro e w5 ⟨rfl, hb5⟩; have hqw4 : w1.heap.size < w4.heap.size := World.block_lt_of_cell? _ _ y4; have y5 := (hb5.cell (p := ⟨w1.heap.size, m, none⟩) hqw4).trans y4; have hQ5 := ((Blk.bel (w := wr.drew) HQX.out hb3).bel hb4).bel hb5; have yf5 := hQ5.frozen m))
              all_goals
                have hB5 : Below wr.heap.size wr w5 := (((Below.refl wr.heap.size wr).drew.trans hb3).trans (hb4.mono hb3.size)).trans (hb5.mono (Nat.le_trans hb3.size hb4.size))
                have hT5 := hTx.bel hB5
                have hB5b := HBX.out.bel hB5
                have hbq : bb ≠ w1.heap.size := by omega
                have hq0 : w1.heap.size ≠ 0 := by have := hT.1; have := hbw1.size; omega
                have hsq := hQ5.set_ m (.int .i64 (t m + (ha * ha + hb * hb)))
                rw [← HPWo, HPS4.out] at hsq
                have hsz5 : W2.heap.size ≤ wr.heap.size := Nat.le_trans hkp.size hkx'.size
                gi_wp2
                go_roundw
                case rel =>
                  rw [← HPWo]
                  exact ⟨m + 1, by omega, by go_num, (hko.trans (others_of_below hB5)).trans (KeepsOthers.setCell _ _ _),
                    (hkx'.trans (Keep.of_below hB5 fun i hi => by have := ((hS i).1 hi).1; omega)).trans (Keep.setCell _ _ _ fun hi => ((hS _).1 hi).2 rfl), hsq, hB5b.far hbq _, hT5.set hq0 _⟩
                case measure => simp [intOf]; omega
            · obtain rfl : m = 4 := by omega
              gi_wp2
              exact ⟨hko, hkx', by rw [HPS.out]; exact hQx, hkp.trans hkx'⟩
        case done =>
          rintro D W' hD ⟨hQW, hkp⟩ hK
          have hD' : D < W'.heap.size := (Array.getElem?_eq_some_iff.1 hK).1
          have hMk' : Marks (w1.heap.size + 1) (D :: Ds) W' := by
            refine ⟨List.nodup_cons.2 ⟨fun h => ?_, hMk.1⟩, fun E hE => ?_⟩
            · have h2 := (Array.getElem?_eq_some_iff.1 (hMk.2 D h).2).1
              omega
            · rcases List.mem_cons.1 hE with rfl | hE
              · exact ⟨by omega, hK⟩
              · have h1 := hMk.2 E hE
                have h2 := (Array.getElem?_eq_some_iff.1 h1.2).1
                exact ⟨h1.1, (hkp.block E ((hS E).2 ⟨by omega, by omega⟩)).trans ((hb12.block E h2).trans h1.2)⟩
          have hbW' : Below w1.heap.size w1 W' := (hbr.trans (hb12.mono (by omega))).trans ⟨hkp.os, hkp.tape, hkp.output, hkp.size, fun j hj => hkp.block j ((hS j).2 ⟨by omega, by omega⟩)⟩
          have hQn : Blk W' w1.heap.size 38 (pow4 (powSum (l.take (k + 1)))) := by
            have e : powSum (l.take (k + 1)) = fun n => powSum (l.take k) n + pwSum samples (blockNs (usableL limit samples gaps) (samples.length / 4)) n := by
              funext n
              rw [HTK.out]
              simp [powSum, Fr.pows]
            rw [e]; exact hQW
          have hmk : ({ target := .collected D, args := #[] } :: marked Ds : List Deferred) = marked (D :: Ds) := rfl
          dsimp only
          rw [hmk]
          go_wp2
          refine ⟨⟨k + 1, D :: Ds, _, _, _, _, _, _, _, _, _, _, _, _, _, _, _, _, _, _, _, _, _, _, _, _, _, rfl, by omega, hMk', hbW', hQn⟩, ?_⟩
          show l.length - ((k : Int) + 1).toNat < l.length - ((k : Int)).toNat
          omega
      · obtain rfl : k = l.length := by omega
        rw [List.take_of_length_le (Nat.le_refl _)] at hQr
        have hbw1 : Below w.heap.size w w1 := tr ((Below.refl _ _).alloc (Nat.le_refl _) _) hb1 (by simp)
        have hbw : Below w.heap.size w wr := tr hbw1 hbr hbw1.size
        have hP0 : Blk (w.alloc (.cells #[.int .i64 0, .int .i64 0, .int .i64 0, .int .i64 0] 38)) w.heap.size 38 [.int .i64 0, .int .i64 0, .int .i64 0, .int .i64 0] := Blk.new w _ [_, _, _, _]
        have hP1 := (hP0.bel hb1).bel hbr
        have hpq : w.heap.size < w1.heap.size := (hP0.bel hb1).lt
        have hqr := hQr.lt
        have d0 := hP1.cell 0
        have d1 := hP1.cell 1
        have d2 := hP1.cell 2
        have d3 := hP1.cell 3
        have y0 := hQr.cell 0
        have y1 := hQr.cell 1
        have y2 := hQr.cell 2
        have y3 := hQr.cell 3
        simp only [pow4, List.getElem?_cons_zero, List.getElem?_cons_succ] at d0 d1 d2 d3 y0 y1 y2 y3
        have k0 := hP1.frozen 0
        have k1 := hP1.frozen 1
        have k2 := hP1.frozen 2
        have k3 := hP1.frozen 3
        have HP := hide hP1
        clear hP1 hP0 hQr
        go_wp2
        obtain ⟨WE, hWE⟩ : ∃ WE, (((wr.setCell ⟨w.heap.size, 0, none⟩ (.int .i64 (powSum l 0))).setCell ⟨w.heap.size, 1, none⟩ (.int .i64 (powSum l 1))).setCell ⟨w.heap.size, 2, none⟩ (.int .i64 (powSum l 2))).setCell ⟨w.heap.size, 3, none⟩ (.int .i64 (powSum l 3)) = WE := ⟨_, rfl⟩
        rw [hWE]
        have hE : Blk WE w.heap.size 38 (pow4 (powSum l)) := by rw [← hWE]; exact (((HP.out.set_ 0 _).set_ 1 _).set_ 2 _).set_ 3 _
        have hBE : Below w.heap.size w WE := by
          rw [← hWE]; exact (((hbw.setCell (Nat.le_refl _) _).setCell (Nat.le_refl _) _).setCell (Nat.le_refl _) _).setCell (Nat.le_refl _) _
        have hME : Marks (w1.heap.size + 1) Ds WE := ⟨hMk.1, fun D hD => ⟨(hMk.2 D hD).1, by
          have h := hMk.2 D hD
          rw [← hWE]
          have hne : ∀ i, D ≠ (⟨w.heap.size, i, none⟩ : Addr).block := fun i => by show D ≠ w.heap.size; omega
          rw [Below.heap_setCell _ _ _ _ (hne 3), Below.heap_setCell _ _ _ _ (hne 2), Below.heap_setCell _ _ _ _ (hne 1), Below.heap_setCell _ _ _ _ (hne 0)]
          exact h.2⟩⟩
        clear hWE
        refine leaves_marks (B := w1.heap.size + 1) (J := fun W => Below w.heap.size w W ∧ Blk W w.heap.size 38 (pow4 (powSum l))) ?_ ?_ Ds WE hME ⟨hBE, hE⟩
        · rintro W D o o' ⟨h1, h2⟩ hD ho hc
          refine ⟨⟨h1.os, h1.tape, h1.output, by simpa using h1.size, fun k hk => (World.putObj_heap_other (by omega)).trans (h1.block k hk)⟩, (World.putObj_heap_other (by omega)).trans h2⟩
        · rintro W ⟨h1, h2⟩
          have g0 := h2.cell 0
          have g1 := h2.cell 1
          have g2 := h2.cell 2
          have g3 := h2.cell 3
          simp only [pow4, List.getElem?_cons_zero, List.getElem?_cons_succ] at g0 g1 g2 g3
          refine ⟨.tuple #[.agg #[.int .i64 (powSum l 0), .int .i64 (powSum l 1), .int .i64 (powSum l 2), .int .i64 (powSum l 3)], .int .i64 0], by simp [results, Tryd.results15, go_sem, g0, g1, g2, g3]; try rfl, .inr ⟨HE.out, rfl⟩, h1⟩
  · have HCe : Hid (Calls Tryd.prog 51 #[.slice F l.length c] (w.alloc (.cells #[.int .i64 0, .int .i64 0, .int .i64 0, .int .i64 0] 38)) fun r w' => r = .returned (.tuple #[.slice none 0 0, .int .i64 (framesE l)]) ∧ Below (w.alloc (.cells #[.int .i64 0, .int .i64 0, .int .i64 0, .int .i64 0] 38)).heap.size (w.alloc (.cells #[.int .i64 0, .int .i64 0, .int .i64 0, .int .i64 0] 38)) w') :=
      HC.out.mono fun r w' hx => by
        obtain ⟨h, hb⟩ := hx
        refine ⟨?_, hb⟩
        rcases h with ⟨_, h⟩ | ⟨h, _⟩
        · exact h
        · exact absurd h he
    have e1 : (framesE l != 0) = true := by simpa using he
    have HE := hide he
    clear he HC
    refine calls_marks 5 Tryd.func15 rfl ?_
    simp only [Tryd.ntmps15, List.size_toArray, List.length_cons, List.length_nil, Nat.reduceAdd, Nat.reduceSub, Array.replicate_succ, Array.replicate_zero, List.push_toArray, List.append_toArray, List.nil_append, List.cons_append]
    go_upto_region 3 with (first | (go_at_call 51; refine HCe.out.mono ?_; rintro e w1 ⟨rfl, hb1⟩))
    have hP0 : Blk (w.alloc (.cells #[.int .i64 0, .int .i64 0, .int .i64 0, .int .i64 0] 38)) w.heap.size 38 [.int .i64 0, .int .i64 0, .int .i64 0, .int .i64 0] := Blk.new w _ [_, _, _, _]
    have hP1 := hP0.bel hb1
    have hbw : Below w.heap.size w w1 := tr ((Below.refl _ _).alloc (Nat.le_refl _) _) hb1 (by simp)
    have d0 := hP1.cell 0
    have d1 := hP1.cell 1
    have d2 := hP1.cell 2
    have d3 := hP1.cell 3
    simp only [List.getElem?_cons_zero, List.getElem?_cons_succ] at d0 d1 d2 d3
    have k0 := hP1.frozen 0
    have k1 := hP1.frozen 1
    have k2 := hP1.frozen 2
    have k3 := hP1.frozen 3
    have HP := hide hP1
    clear hP1 hP0
    go_wp2
    obtain ⟨WE, hWE⟩ : ∃ WE, (((w1.setCell ⟨w.heap.size, 0, none⟩ (.int .i64 0)).setCell ⟨w.heap.size, 1, none⟩ (.int .i64 0)).setCell ⟨w.heap.size, 2, none⟩ (.int .i64 0)).setCell ⟨w.heap.size, 3, none⟩ (.int .i64 0) = WE := ⟨_, rfl⟩
    rw [hWE]
    have hE : Blk WE w.heap.size 38 [.int .i64 0, .int .i64 0, .int .i64 0, .int .i64 0] := by rw [← hWE]; exact (((HP.out.set_ 0 _).set_ 1 _).set_ 2 _).set_ 3 _
    have hBE : Below w.heap.size w WE := by
      rw [← hWE]; exact (((hbw.setCell (Nat.le_refl _) _).setCell (Nat.le_refl _) _).setCell (Nat.le_refl _) _).setCell (Nat.le_refl _) _
    clear hWE
    have g0 := hE.cell 0
    have g1 := hE.cell 1
    have g2 := hE.cell 2
    have g3 := hE.cell 3
    simp only [List.getElem?_cons_zero, List.getElem?_cons_succ] at g0 g1 g2 g3
    exact ⟨.tuple #[.agg #[.int .i64 0, .int .i64 0, .int .i64 0, .int .i64 0], .int .i64 (framesE l)], by simp [results, Tryd.results15, go_sem, g0, g1, g2, g3]; try rfl, .inl ⟨HE.out, rfl⟩, hBE⟩
end Go.Proofs.YtnigmdkhecblnaaDoor

/- The examples of chapter 1 that each statement checks first: what the calls return. No condition but the laid table. -/
namespace Go.Proofs.YtnigmdkhecblnaaDoor
open Go.RowKit
set_option maxRecDepth 100000

theorem aw_partners (A : Option Addr) (c : Nat) (w : World) (hr : Rd w A (ints [1, 1])) :
    Calls Tryd.prog 31 #[.slice A 2 c] w fun r w' => (∃ A' c' vs, r = .returned (.tuple #[.slice A' 2 c', .int .i64 0]) ∧ vs.length = 2 ∧ Rd w' A' vs ∧ Lists w' vs [[-1, 1], [1, -1]]) ∧ Below w.heap.size w w' := by
  refine (partners_c [1, 1] A c w hr (by decide)).mono ?_
  rintro r w' ⟨h, hb⟩
  refine ⟨?_, hb⟩
  have e0 : partE [1, 1] = 0 := by decide
  have e1 : partL [1, 1] (List.range (2 ^ ([1, 1] : List Int).length)) = [[-1, 1], [1, -1]] := by decide
  rcases h with ⟨h, _⟩ | ⟨_, A', c', vs, rfl, h1, h2⟩
  · exact absurd e0 h
  · rw [e1] at h2
    have hl : vs.length = 2 := h2.length
    rw [hl]
    exact ⟨A', c', vs, rfl, hl, h1, h2⟩

theorem aw_wave (w : World) (hT : Tab w) :
    Calls Tryd.prog 32 #[.agg #[.int .i64 5000, .int .i64 3, .int .i64 4], .int .i64 6] w fun r w' => (∃ A c, r = .returned (.tuple #[.slice A 6 c, .int .i64 0]) ∧ Rd w' A (gs [(1, 0), (1, 0), (1, 0), (0, 1), (0, -1), (-1, 0)])) ∧ Below w.heap.size w w' := by
  refine (chirpWave_c 5000 3 4 6 w hT).mono ?_
  rintro r w' ⟨h, hb⟩
  refine ⟨?_, hb⟩
  have e0 : chirpNE 5000 3 4 6 1 32 = 0 := by decide
  have e1 : waveL 5000 3 4 (6 : Int).toNat = [(1, 0), (1, 0), (1, 0), (0, 1), (0, -1), (-1, 0)] := by decide
  rcases h with ⟨h, _⟩ | ⟨_, A', c', rfl, h1⟩
  · exact absurd e0 h
  · rw [e1] at h1 ⊢
    exact ⟨A', c', rfl, h1.1⟩

theorem aw_line (A G B : Option Addr) (cA c cB : Nat) (w : World) (hT : Tab w) (hs : Rd w A (gs [(0, 0), (0, 5), (0, 5), (0, 0)])) (hr : Rd w G (ints [2])) (hv : Rd w B (gs [(1, 0), (1, 0)])) :
    Calls Tryd.prog 34 #[.agg #[.int .i64 0, .int .i64 9, .slice A 4 cA, .slice G 1 c], .slice B 2 cB] w fun r w' =>
      (∃ V M : Option Addr, r = .returned (.tuple #[.agg #[.slice V 3 3, .slice M 3 3], .int .i64 0]) ∧ Rd w' M (ints [0, 1, 1])) ∧ Below w.heap.size w w' := by
  refine (compressed_ok 0 9 A G B cA c cB [(0, 0), (0, 5), (0, 5), (0, 0)] [(1, 0), (1, 0)] [2] w hT hs hr hv (by decide) (by decide) (by decide) (by decide)).mono ?_
  rintro r w' ⟨⟨V, M, rfl, h1, h2⟩, hb⟩
  have e1 : compMs (usableL 9 [(0, 0), (0, 5), (0, 5), (0, 0)] [2]) [(1, 0), (1, 0)] (4 - 2 + 1) = [0, 1, 1] := by decide
  exact ⟨⟨V, M, rfl, by rw [← e1]; exact h2⟩, hb⟩

def awFr (A : Option Addr) : Fr := ⟨0, 9, A, 4, [(3, 0), (0, 0), (1, 0), (0, 0)], none, 0, []⟩
theorem aw_pow (A : Option Addr) : framesE [awFr A] = 0 ∧ powSum [awFr A] 0 = 16 ∧ powSum [awFr A] 1 = 4 ∧ powSum [awFr A] 2 = 16 ∧ powSum [awFr A] 3 = 4 := by
  have h0 : (frameE 0 9 [(3, 0), (0, 0), (1, 0), (0, 0)] []).2 = 0 := by decide
  have h1 : ∀ n, n < 4 → pwSum [(3, 0), (0, 0), (1, 0), (0, 0)] (blockNs (usableL 9 [(3, 0), (0, 0), (1, 0), (0, 0)] []) 1) n = [16, 4, 16, 4].getD n 0 := by decide
  refine ⟨?_, ?_, ?_, ?_, ?_⟩
  · simp only [framesE, awFr, List.map, List.length_cons, List.length_nil, Fr.err, h0]; decide
  · simp only [powSum, awFr, List.map, Fr.pows, List.sum_cons, List.sum_nil]; exact h1 0 (by decide)
  · simp only [powSum, awFr, List.map, Fr.pows, List.sum_cons, List.sum_nil]; exact h1 1 (by decide)
  · simp only [powSum, awFr, List.map, Fr.pows, List.sum_cons, List.sum_nil]; exact h1 2 (by decide)
  · simp only [powSum, awFr, List.map, Fr.pows, List.sum_cons, List.sum_nil]; exact h1 3 (by decide)
end Go.Proofs.YtnigmdkhecblnaaDoor

/- The examples of chapter 1 that each statement checks first hold. No condition but the laid table. -/
namespace Go.Proofs.YtnigmdkhecblnaaDoor
open Go.RowKit
set_option maxRecDepth 100000

theorem Lists.bel {w w' : World} {vs : List Value} {ll : List (List Int)} (h : Lists w vs ll) (hb : Below w.heap.size w w') : Lists w' vs ll := h.keep fun _ _ h => h.bel hb

theorem Blk.new2 (w : World) (t1 t2 : TypeId) (l1 l2 : List Value) : Blk ((w.alloc (.cells l1.toArray t1)).alloc (.cells l2.toArray t2)) (w.heap.size + 1) t2 l2 := by
  have h := Blk.new (w.alloc (.cells l1.toArray t1)) t2 l2
  rwa [show (w.alloc (.cells l1.toArray t1)).heap.size = w.heap.size + 1 from by simp] at h
theorem Blk.new3 (w : World) (t1 t2 t3 : TypeId) (l1 l2 l3 : List Value) : Blk (((w.alloc (.cells l1.toArray t1)).alloc (.cells l2.toArray t2)).alloc (.cells l3.toArray t3)) (w.heap.size + 1 + 1) t3 l3 := by
  have h := Blk.new2 (w.alloc (.cells l1.toArray t1)) t2 t3 l2 l3
  rwa [show (w.alloc (.cells l1.toArray t1)).heap.size = w.heap.size + 1 from by simp] at h

theorem aw_powers (F A : Option Addr) (c : Nat) (w : World) (hT : Tab w) (hr : Rd w F [.int .i64 0, .int .i64 9, .slice A 4 4, .slice none 0 0]) (hs : Rd w A (gs [(3, 0), (0, 0), (1, 0), (0, 0)])) :
    Calls Tryd.prog 15 #[.slice F 1 c] w fun r w' => r = .returned (.tuple #[.agg #[.int .i64 16, .int .i64 4, .int .i64 16, .int .i64 4], .int .i64 0]) ∧ Below w.heap.size w w' := by
  obtain ⟨e0, q0, q1, q2, q3⟩ := aw_pow A
  refine (powersOf_c [awFr A] F c w hT hr (fun f hf => ?_) (by simp)).mono ?_
  · obtain rfl : f = awFr A := by simpa using hf
    exact ⟨hs, Rd.nil _ _, by simp [awFr], by simp [awFr]⟩
  · rintro r w' ⟨h, hb⟩
    refine ⟨?_, hb⟩
    rcases h with ⟨h, _⟩ | ⟨_, h⟩
    · exact absurd e0 h
    · rw [q0, q1, q2, q3] at h
      exact h

theorem aw_eql (W : World) : Sem.run Tryd.prog (Op.equalIn 10000 38 (.agg #[.int .i64 16, .int .i64 4, .int .i64 16, .int .i64 4]) (.agg #[.int .i64 16, .int .i64 4, .int .i64 16, .int .i64 4])) W = .ok true W := by kernel_rfl
attribute [local go_sem] aw_eql

theorem aw_lists (vs : List Value) (A B : Option Addr) (c d : Nat) (w : World) (hvs : vs.length = 2) (hr : Rd w A vs) (hL : Lists w vs [[-1, 1], [1, -1]]) (v1 v2 : Value) (hs : Rd w B [v1, v2]) (hM : Lists w [v1, v2] [[-1, 1], [1, -1]]) :
    Calls Tryd.prog 36 #[.slice A 2 c, .slice B 2 d] w fun r w' => r = .returned (.bool true) ∧ Below w.heap.size w w' := by
  have h := lists_c vs [v1, v2] _ _ A B c d w hr hs hL hM (by omega) (by simp) (by decide)
  rw [hvs] at h
  exact h
theorem aw_lits (w : World) : ∃ W, ((w.alloc (.cells #[.int .i64 (-1), .int .i64 1] 3)).alloc (.cells #[.int .i64 1, .int .i64 (-1)] 3)).alloc (.cells #[.slice (some ⟨w.heap.size, 0, none⟩) 2 2, .slice (some ⟨w.heap.size + 1, 0, none⟩) 2 2] 23) = W ∧
    Below w.heap.size w W ∧ Rd W (some ⟨w.heap.size + 1 + 1, 0, none⟩) [.slice (some ⟨w.heap.size, 0, none⟩) 2 2, .slice (some ⟨w.heap.size + 1, 0, none⟩) 2 2] ∧
    Lists W [.slice (some ⟨w.heap.size, 0, none⟩) 2 2, .slice (some ⟨w.heap.size + 1, 0, none⟩) 2 2] [[-1, 1], [1, -1]] := by
  obtain ⟨W, hW⟩ : ∃ W, ((w.alloc (.cells #[.int .i64 (-1), .int .i64 1] 3)).alloc (.cells #[.int .i64 1, .int .i64 (-1)] 3)).alloc (.cells #[.slice (some ⟨w.heap.size, 0, none⟩) 2 2, .slice (some ⟨w.heap.size + 1, 0, none⟩) 2 2] 23) = W := ⟨_, rfl⟩
  have b1 : Blk (w.alloc (.cells #[.int .i64 (-1), .int .i64 1] 3)) w.heap.size 3 (ints [-1, 1]) := Blk.new w _ _
  have b2 : Blk ((w.alloc (.cells #[.int .i64 (-1), .int .i64 1] 3)).alloc (.cells #[.int .i64 1, .int .i64 (-1)] 3)) (w.heap.size + 1) 3 (ints [1, -1]) := Blk.new2 w _ _ [_, _] _
  have b3 : Blk W (w.heap.size + 1 + 1) 23 [.slice (some ⟨w.heap.size, 0, none⟩) 2 2, .slice (some ⟨w.heap.size + 1, 0, none⟩) 2 2] := by rw [← hW]; exact Blk.new3 w _ _ _ [_, _] [_, _] _
  have c1 : Blk W w.heap.size 3 (ints [-1, 1]) := by rw [← hW]; exact (b1.bel (alloc_bel _ _)).bel (alloc_bel _ _)
  have c2 : Blk W (w.heap.size + 1) 3 (ints [1, -1]) := by rw [← hW]; exact b2.bel (alloc_bel _ _)
  refine ⟨W, hW, ?_, b3.rd (List.prefix_refl _), ⟨_, _, rfl, c1.rdT (List.prefix_refl _)⟩, ⟨_, _, rfl, c2.rdT (List.prefix_refl _)⟩, trivial⟩
  rw [← hW]
  exact tr (tr (alloc_bel _ _) (alloc_bel _ _) (by simp)) (alloc_bel _ _) (by simp; omega)

set_option maxHeartbeats 2000000 in
theorem awake_c (w : World) (hT : Tab w) : Calls Tryd.prog 6 #[] w fun r w' => r = .returned (.bool true) ∧ Below w.heap.size w w' := by
  go_enter Tryd.func6, Tryd.ntmps6
  go_upto_region 2 with (first
    | (go_at_call 31; refine (aw_partners _ _ _ ?_).mono ?_; exact (Blk.new w 3 [.int .i64 1, .int .i64 1]).rd (List.prefix_refl _); rintro e w1 ⟨⟨A1, c1, vs, rfl, hvs, hr1, hl1⟩, hb1⟩))
  have hT1 : Tab w1 := (hT.bel (alloc_bel _ _)).bel hb1
  have hW1 : Below w.heap.size w w1 := tr (alloc_bel _ _) hb1 (by simp)
  clear hb1
  go_upto_region 3 with (first
    | (go_at_call 33; refine (chirp_c _).mono ?_; rintro e w2 ⟨rfl, hb2⟩)
    | (go_at_call 32; refine (aw_wave _ (hT1.bel hb2)).mono ?_; rintro e w3 ⟨⟨A3, c3, rfl, hr3⟩, hb3⟩))
  have hT3 : Tab w3 := (hT1.bel hb2).bel hb3
  have hW2 : Below w.heap.size w w2 := tr hW1 hb2 hW1.size
  have hW3 : Below w.heap.size w w3 := tr hW2 hb3 hW2.size
  have hr1' : Rd w3 A1 vs := (hr1.bel hb2).bel hb3
  have hl1' : Lists w3 vs [[-1, 1], [1, -1]] := (hl1.bel hb2).bel hb3
  clear hr1 hl1 hT1 hW1 hW2 hb2 hb3
  go_upto_region 4 with (first
    | (go_at_call 35; refine (frame_c _).mono ?_; rintro e w4 ⟨⟨A4, G4, rfl, hra, hrg⟩, hb4⟩)
    | (go_at_call 34; refine (aw_line _ _ _ _ _ _ _ ?_ ?_ ?_ ?_).mono ?_; exact (hT3.bel hb4).bel (alloc_bel _ _); exact hra.bel (alloc_bel _ _); exact hrg.bel (alloc_bel _ _); exact (Blk.new w4 47 (gs [(1, 0), (1, 0)])).rd (List.prefix_refl _); rintro e w5 ⟨⟨V5, M5, rfl, hrm⟩, hb5⟩))
  have hW4 : Below w.heap.size w w4 := tr hW3 hb4 hW3.size
  have hW5 : Below w.heap.size w w5 := tr (tr hW4 (alloc_bel w4 (.cells (gs [(1, 0), (1, 0)]).toArray 47)) hW4.size) hb5 (by have := hW4.size; simp; omega)
  have up5 : Below w3.heap.size w3 w5 := tr (tr hb4 (alloc_bel w4 (.cells (gs [(1, 0), (1, 0)]).toArray 47)) hb4.size) hb5 (by have := hb4.size; simp; omega)
  obtain ⟨W6, hW6⟩ : ∃ W, w5.alloc (.cells #[.slice V5 3 3, .slice M5 3 3] 73) = W := ⟨_, rfl⟩
  have hB6 : Blk W6 w5.heap.size 73 [.slice V5 3 3, .slice M5 3 3] := by rw [← hW6]; exact Blk.new w5 _ [_, _]
  have up6 : Below w3.heap.size w3 W6 := by rw [← hW6]; exact tr up5 (alloc_bel w5 _) up5.size
  have hrm6 : Rd W6 M5 (ints [0, 1, 1]) := by rw [← hW6]; exact hrm.bel (alloc_bel w5 _)
  rw [hW6]
  clear hW6 hrm hra hrg hb4 hb5 up5 hW4
  have hT6 := hT3.bel up6
  have hr16 := hr1'.bel up6
  have hl16 := hl1'.bel up6
  have hr36 := hr3.bel up6
  have hW6 : Below w.heap.size w W6 := tr hW3 up6 hW3.size
  clear hT3 hr1' hl1' hr3 up6 hW3 hW5
  go_upto_region 5 with (first
    | (go_at_call 15; refine (aw_powers _ (some ⟨W6.heap.size, 0, none⟩) _ _ ?_ ?_ ?_).mono ?_; exact (hT6.bel (alloc_bel _ _)).bel (alloc_bel _ _); exact (Blk.new2 W6 47 25 (gs [(3, 0), (0, 0), (1, 0), (0, 0)]) [.int .i64 0, .int .i64 9, .slice (some ⟨W6.heap.size, 0, none⟩) 4 4, .slice none 0 0]).rd (List.prefix_refl _); exact ((Blk.new W6 47 (gs [(3, 0), (0, 0), (1, 0), (0, 0)])).rd (List.prefix_refl _)).bel (alloc_bel _ _); rintro e w7 ⟨rfl, hb7⟩))
  obtain ⟨W8, hW8⟩ : ∃ W, w7.alloc (.cells #[.int .i64 16, .int .i64 4, .int .i64 16, .int .i64 4] 38) = W := ⟨_, rfl⟩
  have up7 : Below W6.heap.size W6 w7 := tr (tr (alloc_bel W6 _) (alloc_bel _ _) (by simp)) hb7 (by simp; omega)
  have hB8 : Blk W8 w7.heap.size 38 [.int .i64 16, .int .i64 4, .int .i64 16, .int .i64 4] := by rw [← hW8]; exact Blk.new w7 _ [_, _, _, _]
  have up8 : Below W6.heap.size W6 W8 := by rw [← hW8]; exact tr up7 (alloc_bel w7 _) up7.size
  rw [hW8]
  clear hW8 hb7 up7 hT6
  have hW8 : Below w.heap.size w W8 := tr hW6 up8 hW6.size
  have hr18 := hr16.bel up8
  have hl18 := hl16.bel up8
  have hr38 := hr36.bel up8
  have hrm8 := hrm6.bel up8
  have hB58 := hB6.bel up8
  clear hr16 hl16 hr36 hrm6 hB6 up8 hW6
  obtain ⟨W9, hW9, hb9, hr9, hl9⟩ := aw_lits W8
  have HL := hide (aw_lists vs A1 (some ⟨W8.heap.size + 1 + 1, 0, none⟩) c1 2 W9 hvs (hr18.bel hb9) (hl18.bel hb9) _ _ hr9 hl9)
  have hr39 := hr38.bel hb9
  have hrm9 := hrm8.bel hb9
  have hB59 := hB58.bel hb9
  have hB79 := hB8.bel hb9
  have hw9 : Below w.heap.size w W9 := tr hW8 hb9 hW8.size
  clear hr9 hl9 hr18 hl18 hr38 hrm8 hB58 hB8 hb9 hW8 hvs
  go_wp2_with (first
    | (go_at_call 36; (try rw [hW9]); refine HL.out.mono ?_; rintro e w10 ⟨rfl, hb10⟩; have hr310 := hr39.bel hb10)
    | (go_at_call 37; refine (gausses_c [(1, 0), (1, 0), (1, 0), (0, 1), (0, -1), (-1, 0)] [(1, 0), (1, 0), (1, 0), (0, 1), (0, -1), (-1, 0)] _ _ _ _ _ ?_ ?_ (by decide)).mono ?_; exact hr310.bel (alloc_bel _ _); exact (Blk.new w10 47 (gs [(1, 0), (1, 0), (1, 0), (0, 1), (0, -1), (-1, 0)])).rd (List.prefix_refl _); rintro e w11 ⟨rfl, hb11⟩; have up11 : Below w10.heap.size w10 w11 := tr (alloc_bel _ _) hb11 (by simp); have hrm11 := (hrm9.bel hb10).bel up11; have hB511 := (hB59.bel hb10).bel up11; have y511 := hB511.cell 1; simp only [List.getElem?_cons_succ, List.getElem?_cons_zero] at y511)
    | (go_at_call 17; refine (ints_c [0, 1, 1] [0, 1, 1] _ _ _ _ _ ?_ ?_ (by decide)).mono ?_; exact hrm11.bel (alloc_bel _ _); exact (Blk.new w11 3 (ints [0, 1, 1])).rd (List.prefix_refl _); rintro e w12 ⟨rfl, hb12⟩; have up12 : Below w11.heap.size w11 w12 := tr (alloc_bel _ _) hb12 (by simp); have hB712 := ((hB79.bel hb10).bel up11).bel up12; have z0 := hB712.cell 0; have z1 := hB712.cell 1; have z2 := hB712.cell 2; have z3 := hB712.cell 3; simp only [List.getElem?_cons_succ, List.getElem?_cons_zero] at z0 z1 z2 z3))
  go_ret
  exact ⟨rfl, tr hw9 (tr (tr hb10 up11 hb10.size) up12 (by have := hb10.size; have := up11.size; omega)) hw9.size⟩
end Go.Proofs.YtnigmdkhecblnaaDoor

