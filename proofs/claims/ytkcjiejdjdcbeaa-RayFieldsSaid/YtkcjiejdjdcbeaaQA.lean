/- A group of texts (tools/groups.txt): Base Spec Iter Iter2 Marks Base2 App OrdM Iter3. No condition but those that each says. -/
import Derived.WalkKit
import Derived.WalkSpells
import Derived.WalkLawsBesides
import Derived.Deep.Draws
import Derived.Deep.OwnRows
import Derived.Deep.QuietTactic
import Derived.BigQuiet
import Derived.Deep.RegionHeld3
import Derived.Deep.RegionWith
import Derived.StillTailTactics
import Derived.RangeFuncOwn
import Derived.RangeFuncCalls
import Derived.RangeFuncLeaves
import Derived.RangeFuncBox
import Derived.RangeFuncFrom
import Derived.OwnWalkIn
import Derived.TacticsInMore
import Derived.LoopNIn
import Derived.LoopIn
import Derived.Shelf.Abstract
import Derived.Maps.AppendAt
import Derived.Deep.AppendLies
import Derived.Laws.OwnMore
import Derived.OrdersHeld
set_option linter.unusedSimpArgs false
set_option linter.unusedVariables false
/- Words for memory that the walks of this seat share: a slice that reads as a list of cells, what new blocks leave as it was. Plain lemmas; no condition. -/
namespace Go.Proofs.Ytkcjiejdjdcbeaa
open Go.RowKit

theorem bcell {W w1 : World} (hb : Below W.heap.size W w1) : (∀ b o, b < W.heap.size → w1.cell? ⟨b, o, none⟩ = W.cell? ⟨b, o, none⟩) ∧ (∀ b o, b < W.heap.size → w1.frozen? ⟨b, o, none⟩ = W.frozen? ⟨b, o, none⟩) :=
  ⟨fun b o h => hb.cell (p := ⟨b, o, none⟩) h, fun b o h => hb.frozen (p := ⟨b, o, none⟩) h⟩

theorem hide {p : Prop} (h : p) : Hid p := h
theorem unhide {p : Prop} (h : Hid p) : p := h

theorem below_drewN {B : Nat} {a w : World} (h : Below B a w) (n : Nat) : Below B a (w.drewN n) := ⟨h.os, h.tape, h.output, h.size, h.block⟩

/-- Two steps, each a call's own. -/
theorem tr {a b c : World} {B : Nat} (h : Below a.heap.size a b) (k : Below B b c) (hB : a.heap.size ≤ B) : Below a.heap.size a c := h.trans (k.mono hB)

/-- A slice's address A, behind which the cells xs lie (nothing is asked of an empty one). -/
def Rd (w : World) (A : Option Addr) (xs : List Value) : Prop :=
  xs ≠ [] → ∃ b off, A = some ⟨b, off, none⟩ ∧ b < w.heap.size ∧ ∀ j u, xs[j]? = some u → w.cell? ⟨b, off + j, none⟩ = some u

theorem Rd.nil (w : World) (A : Option Addr) : Rd w A [] := fun h => (h rfl).elim

theorem Rd.below {B : Nat} {w w' : World} {A : Option Addr} {xs : List Value} (h : Rd w A xs) (hb : Below B w w') (hB : w.heap.size ≤ B) : Rd w' A xs := by
  intro hx
  obtain ⟨b, off, rfl, hlt, hc⟩ := h hx
  exact ⟨b, off, rfl, Nat.lt_of_lt_of_le hlt hb.size, fun j u hu => (hb.cell (p := ⟨b, off + j, none⟩) (Nat.lt_of_lt_of_le hlt hB)).trans (hc j u hu)⟩

theorem Rd.bel {w w' : World} {A : Option Addr} {xs : List Value} (h : Rd w A xs) (hb : Below w.heap.size w w') : Rd w' A xs := h.below hb (Nat.le_refl _)

theorem Rd.alloc {w : World} {A : Option Addr} {xs : List Value} (h : Rd w A xs) (o : Obj) : Rd (w.alloc o) A xs := h.bel ((Below.refl _ _).alloc (Nat.le_refl _) o)
theorem Rd.drew {w : World} {A : Option Addr} {xs : List Value} (h : Rd w A xs) : Rd w.drew A xs := h
theorem Rd.drewN {w : World} {A : Option Addr} {xs : List Value} (h : Rd w A xs) (n : Nat) : Rd (w.drewN n) A xs := h

theorem Rd.of_own {w : World} {base : Nat} {e : TypeId} {size n c : Nat} {A : Option Addr} {xs : List Value} (h : w.ownsRow base e size (.slice A n c) n xs) : Rd w A xs := by
  intro hx
  rcases h.2 with ⟨hv, hn⟩ | ⟨g, cap, cur, hv, hg, hh, hnc, _, hsz, htake⟩
  · exfalso
    have := h.1
    rw [hn, Nat.zero_mul] at this
    exact hx (List.eq_nil_of_length_eq_zero this)
  · have hA : A = some ⟨g, 0, none⟩ := by injection hv
    have hlt : g < w.heap.size := (Array.getElem?_eq_some_iff.1 hh).1
    refine ⟨g, 0, hA, hlt, fun j u hu => ?_⟩
    rw [Nat.zero_add, cell_of_row w g j cur e (0, 0) hh]
    rw [← htake, List.getElem?_take] at hu
    split at hu
    · simpa using hu
    · cases hu

/-- The cells of numbers. -/
def ints (l : List Int) : List Value := l.map (.int .i64)
@[simp] theorem ints_length (l : List Int) : (ints l).length = l.length := by simp [ints]
@[simp] theorem ints_nil : ints [] = [] := rfl
theorem ints_append (l m : List Int) : ints (l ++ m) = ints l ++ ints m := by simp [ints]
theorem ints_at {l : List Int} {k : Nat} (h : k < l.length) : (ints l)[k]? = some (.int .i64 l[k]) := by simp [ints, h]
theorem ints_one (l : List Int) : ∀ u ∈ ints l, u.oneCell' = true := by
  intro u hu
  obtain ⟨_, _, rfl⟩ := List.mem_map.1 hu
  rfl

/-- The cells of whole complex numbers, two each. -/
def gs (l : List (Int × Int)) : List Value := l.flatMap fun g => [.int .i64 g.1, .int .i64 g.2]
@[simp] theorem gs_length (l : List (Int × Int)) : (gs l).length = l.length * 2 := by
  induction l with
  | nil => rfl
  | cons g l ih => simp only [gs, List.flatMap_cons, List.length_append, List.length_cons, List.length_nil] at ih ⊢; omega
@[simp] theorem gs_nil : gs [] = [] := rfl
theorem gs_cons (g : Int × Int) (l : List (Int × Int)) : gs (g :: l) = .int .i64 g.1 :: .int .i64 g.2 :: gs l := rfl
theorem gs_append (l m : List (Int × Int)) : gs (l ++ m) = gs l ++ gs m := by simp [gs]
theorem gs_at {l : List (Int × Int)} {k : Nat} (h : k < l.length) : (gs l)[k * 2]? = some (.int .i64 l[k].1) ∧ (gs l)[k * 2 + 1]? = some (.int .i64 l[k].2) := by
  induction l generalizing k with
  | nil => simp at h
  | cons g l ih =>
    rw [gs_cons]
    cases k with
    | zero => exact ⟨rfl, rfl⟩
    | succ k =>
      have := ih (k := k) (by simpa using h)
      rw [show (k + 1) * 2 = k * 2 + 2 from by omega]
      simpa using this
theorem gs_one (l : List (Int × Int)) : ∀ u ∈ gs l, u.oneCell' = true := by
  intro u hu
  obtain ⟨g, _, hg⟩ := List.mem_flatMap.1 hu
  simp at hg
  rcases hg with rfl | rfl <;> rfl

/-- What a round reads: number k of a slice of numbers. -/
theorem Rd.int_at {w : World} {A : Option Addr} {l : List Int} (h : Rd w A (ints l)) {k : Nat} (hk : k < l.length) : ∃ b off, A = some ⟨b, off, none⟩ ∧ b < w.heap.size ∧ w.cell? ⟨b, off + k, none⟩ = some (.int .i64 l[k]) := by
  obtain ⟨b, off, rfl, hlt, hc⟩ := h (by intro e; have := congrArg List.length e; rw [ints_length, List.length_nil] at this; omega)
  exact ⟨b, off, rfl, hlt, hc k _ (ints_at hk)⟩
theorem Rd.g_at {w : World} {A : Option Addr} {l : List (Int × Int)} (h : Rd w A (gs l)) {k : Nat} (hk : k < l.length) :
    ∃ b off, A = some ⟨b, off, none⟩ ∧ b < w.heap.size ∧ w.cell? ⟨b, off + k * 2, none⟩ = some (.int .i64 l[k].1) ∧ w.cell? ⟨b, off + k * 2 + 1, none⟩ = some (.int .i64 l[k].2) := by
  obtain ⟨b, off, rfl, hlt, hc⟩ := h (by intro e; have := congrArg List.length e; rw [gs_length, List.length_nil] at this; omega)
  obtain ⟨h1, h2⟩ := gs_at hk
  exact ⟨b, off, rfl, hlt, hc _ _ h1, by rw [Nat.add_assoc]; exact hc _ _ h2⟩

/-- A block that is known whole. -/
def Blk (w : World) (g : Nat) (t : TypeId) (cs : List Value) : Prop := w.heap[g]? = some (.cells cs.toArray t (0, 0))
section
variable {w w' : World} {g : Nat} {t : TypeId} {cs : List Value}
theorem Blk.lt (h : Blk w g t cs) : g < w.heap.size := (Array.getElem?_eq_some_iff.1 h).1
theorem Blk.cell (h : Blk w g t cs) (i : Nat) : w.cell? ⟨g, i, none⟩ = cs[i]? := by rw [cell_of_row w g i _ t (0, 0) h]; simp
theorem Blk.frozen (h : Blk w g t cs) (i : Nat) : w.frozen? ⟨g, i, none⟩ = false := by unfold Blk at h; simp [World.frozen?, h]
theorem Blk.new (w : World) (t : TypeId) (cs : List Value) : Blk (w.alloc (.cells cs.toArray t)) w.heap.size t cs := heap_alloc_new w _
theorem Blk.below {B : Nat} (h : Blk w g t cs) (hb : Below B w w') (hg : g < B) : Blk w' g t cs := (hb.block g hg).trans h
theorem Blk.bel (h : Blk w g t cs) (hb : Below w.heap.size w w') : Blk w' g t cs := h.below hb h.lt
theorem Blk.drewN (h : Blk w g t cs) (n : Nat) : Blk (w.drewN n) g t cs := h
theorem Blk.set_ (h : Blk w g t cs) (i : Nat) (u : Value) : Blk (w.setCell ⟨g, i, none⟩ u) g t (cs.set i u) := by
  unfold Blk at h ⊢
  simp [World.setCell, Array.getElem?_modify, h]
theorem Blk.far (h : Blk w g t cs) {p : Addr} (hp : g ≠ p.block) (u : Value) : Blk (w.setCell p u) g t cs := (Below.heap_setCell w p u g hp).trans h
theorem Blk.rd (h : Blk w g t cs) {xs : List Value} (hx : xs <+: cs) : Rd w (some ⟨g, 0, none⟩) xs := fun _ =>
  ⟨g, 0, rfl, h.lt, fun j u hu => by
    rw [Nat.zero_add, h.cell j]
    obtain ⟨ys, rfl⟩ := hx
    rw [List.getElem?_append_left (List.getElem?_eq_some_iff.1 hu).1]
    exact hu⟩
theorem Blk.of_own {base n size : Nat} {xs : List Value} (h : w.ownsRow base t size (.slice (some ⟨g, 0, none⟩) n n) n xs) : Blk w g t xs := by
  rcases h.2 with ⟨hv, _⟩ | ⟨g', cap, cur, hv, _, hh, _, _, hsz, htake⟩
  · cases hv
  · injection hv with e1 _ e3
    have e1' : g = g' := by injection e1 with e1; injection e1
    subst e1' e3
    have hc : cur.toList = xs := by rw [← htake, List.take_of_length_le (by simp [hsz])]
    unfold Blk
    rw [← hc]
    exact hh
end

/-- make([]T, n) lays so many zeros. -/
theorem madeCells_one (v : Value) (h : v.cells = #[v]) (n : Nat) : (madeCells v.cells (n * 1)).toList = List.replicate n v := by
  rw [h]
  simp [madeCells]
  refine List.ext_getElem (by simp) fun i h1 h2 => ?_
  simp [Nat.mod_one]

theorem ofInt_i64 (a : Nat) (ha : a < 9223372036854775808) : (BitVec.ofInt 64 (a : Int)).toNat = a := by
  rw [BitVec.ofInt_natCast, BitVec.toNat_ofNat]; exact Nat.mod_eq_of_lt (by omega)
theorem i64_and (a b : Nat) (ha : a < 9223372036854775808) (hb : b < 9223372036854775808) : bits .and .i64 (a : Int) (b : Int) = ((a &&& b : Nat) : Int) := by
  have hx : a &&& b < 2 ^ 63 := Nat.and_lt_two_pow _ (by omega)
  show IntKind.i64.wrap ((BitVec.ofInt 64 (a : Int) &&& BitVec.ofInt 64 (b : Int)).toNat : Int) = _
  rw [BitVec.toNat_and, ofInt_i64 a ha, ofInt_i64 b hb, IntKind.wrap_i64]
  omega
theorem i64_and_one (a : Nat) (ha : a < 9223372036854775808) : bits .and .i64 (a : Int) 1 = ((a % 2 : Nat) : Int) := by
  have := i64_and a 1 ha (by omega)
  rw [Nat.and_one_is_mod] at this
  exact this
theorem wrap64_id {x : Int} (h1 : -9223372036854775808 ≤ x) (h2 : x ≤ 9223372036854775807) : wrap64 x = x := IntWalk.wrap64_in x ⟨h1, h2⟩

theorem ret_int {k : IntKind} {a b : Int} (h : a = b) : Ending.returned (.int k a) = .returned (.int k b) := by rw [h]
theorem ret_bool {a b : Bool} (h : a = b) : Ending.returned (.bool a) = .returned (.bool b) := by rw [h]
end Go.Proofs.Ytkcjiejdjdcbeaa

/- The specification's words as plain functions, shared by the program's contracts and the references'. No condition. -/
namespace Go.Proofs.Ytkcjiejdjdcbeaa

abbrev G := Int × Int

/-- The first of several errors. -/
def firstE : List Int → Int
  | [] => 0
  | e :: l => if e = 0 then firstE l else e

theorem firstE_append (l : List Int) (e : Int) (h : firstE l = 0) : firstE (l ++ [e]) = e := by
  induction l with
  | nil => simp [firstE]; intro h; exact h.symm
  | cons a l ih =>
    simp only [firstE, List.cons_append] at h ⊢
    split at h
    · rename_i h0; rw [if_pos h0]; exact ih h
    · omega

theorem firstE_take_succ (l : List Int) (k : Nat) (hk : k < l.length) (h : firstE (l.take k) = 0) : firstE (l.take (k + 1)) = l[k] := by
  rw [List.take_succ_eq_append_getElem hk]; exact firstE_append _ _ h

theorem firstE_of_take (l : List Int) (k : Nat) (h : firstE (l.take k) ≠ 0) : firstE l = firstE (l.take k) := by
  induction l generalizing k with
  | nil => simp
  | cons a l ih =>
    cases k with
    | zero => simp [firstE] at h
    | succ k =>
      simp only [List.take_succ_cons, firstE] at h ⊢
      split
      · rename_i h0; rw [if_pos h0] at h; exact ih k h
      · rfl

/-- A number beyond its range, as a test that the walk does not open. -/
def outB (n lo hi : Int) : Bool := decide (n < lo) || decide (hi < n)
theorem outB_true {n lo hi : Int} : outB n lo hi = true ↔ n < lo ∨ hi < n := by simp [outB]
theorem outB_false {n lo hi : Int} : outB n lo hi = false ↔ lo ≤ n ∧ n ≤ hi := by simp [outB]

/-- The index and the error of the first item to which a check objects, counted from k on. -/
def firstBadFrom {α : Type} (chk : Nat → α → Int) : Nat → List α → Int × Int
  | _, [] => (0, 0)
  | k, x :: l => if chk k x = 0 then firstBadFrom chk (k + 1) l else ((k : Int), chk k x)

theorem firstBadFrom_split {α : Type} (chk : Nat → α → Int) (l : List α) (k j : Nat) (hj : j < l.length) (h0 : ∀ i (hi : i < j), chk (k + i) (l[i]'(by omega)) = 0) :
    firstBadFrom chk k l = if chk (k + j) l[j] = 0 then firstBadFrom chk (k + j + 1) (l.drop (j + 1)) else (((k + j : Nat) : Int), chk (k + j) l[j]) := by
  induction j generalizing k l with
  | zero => cases l with
    | nil => simp at hj
    | cons x l => simp [firstBadFrom]
  | succ j ih => cases l with
    | nil => simp at hj
    | cons x l =>
      have hx := h0 0 (by omega)
      simp at hx
      simp only [firstBadFrom, hx, if_true]
      have := ih l (k + 1) (by simpa using hj) (fun i hi => by have := h0 (i + 1) (by omega); simpa [Nat.add_assoc, Nat.add_comm, Nat.add_left_comm] using this)
      rw [this]
      simp [Nat.add_comm, Nat.add_left_comm]

theorem firstBadFrom_none {α : Type} (chk : Nat → α → Int) (l : List α) (k : Nat) (h0 : ∀ i (hi : i < l.length), chk (k + i) l[i] = 0) : firstBadFrom chk k l = (0, 0) := by
  induction l generalizing k with
  | nil => rfl
  | cons x l ih =>
    have hx := h0 0 (by simp)
    simp at hx
    simp only [firstBadFrom, hx, if_true]
    exact ih (k + 1) fun i hi => by have := h0 (i + 1) (by simpa using hi); simpa [Nat.add_assoc, Nat.add_comm, Nat.add_left_comm] using this

theorem firstBadFrom_some {α : Type} (chk : Nat → α → Int) (l : List α) (k j : Nat) (hj : j < l.length) (h0 : ∀ i (hi : i < j), chk (k + i) (l[i]'(by omega)) = 0) (h1 : chk (k + j) l[j] ≠ 0) :
    firstBadFrom chk k l = (((k + j : Nat) : Int), chk (k + j) l[j]) := by
  rw [firstBadFrom_split chk l k j hj h0, if_neg h1]

/-- An error, or none. -/
def errIf (b : Bool) (e : Int) : Int := if b then e else 0
theorem errIf_true (e : Int) : errIf true e = e := rfl
theorem errIf_false (e : Int) : errIf false e = 0 := rfl

/-- The error of a length that must not be 0. -/
def lenE (n most : Int) : Int := firstE [errIf (n == 0) 10, errIf (decide (most < n)) 8]
theorem lenE_eq (n most : Int) : lenE n most = if n = 0 then 10 else if most < n then 8 else 0 := by
  unfold lenE firstE errIf
  by_cases h : n = 0
  · simp [h]
  · by_cases h' : most < n <;> simp [h, h', firstE]

def codeItem (n : Int) : Int := if n = 1 ∨ n = -1 then 0 else 2
/-- The error of a code. -/
def codeE (l : List Int) : Int := if lenE l.length 32 = 0 then (firstBadFrom (fun _ n => codeItem n) 0 l).2 else lenE l.length 32

/-- The error of a chirp. -/
def chirpE (s n d : Int) : Int := if s < 0 ∨ 100000 < s ∨ n < 0 ∨ 1000 < n ∨ d < 1 ∨ 1000 < d then 2 else 0
def freq (s n d t : Int) : Int := s + t * n / d
end Go.Proofs.Ytkcjiejdjdcbeaa

/- A loop over a function (range-over-func) of this seat: an iterator that hands out known things one by one, a body that never leaves early. Plain laws over any program; no condition. -/
namespace Go.Proofs.Ytkcjiejdjdcbeaa
open Go.RowKit

/-- The blocks of S lie as they lay; the streams are as they were; no block has gone. -/
structure Keep (S : Nat → Prop) (w w' : World) : Prop where
  os : w'.os = w.os
  tape : w'.tape = w.tape
  output : w'.output = w.output
  size : w.heap.size ≤ w'.heap.size
  block : ∀ k, S k → w'.heap[k]? = w.heap[k]?

section
variable {S : Nat → Prop} {a b c : World}
theorem Keep.refl (S : Nat → Prop) (w : World) : Keep S w w := ⟨rfl, rfl, rfl, Nat.le_refl _, fun _ _ => rfl⟩
theorem Keep.trans (h : Keep S a b) (k : Keep S b c) : Keep S a c :=
  ⟨k.os.trans h.os, k.tape.trans h.tape, k.output.trans h.output, Nat.le_trans h.size k.size, fun i hi => (k.block i hi).trans (h.block i hi)⟩
theorem Keep.of_below {B : Nat} (h : Below B a b) (hS : ∀ k, S k → k < B) : Keep S a b := ⟨h.os, h.tape, h.output, h.size, fun k hk => h.block k (hS k hk)⟩
theorem Keep.putObj (w : World) (l : Nat) (o : Obj) (hl : ¬ S l) : Keep S w (w.putObj l o) :=
  ⟨rfl, rfl, rfl, by simp, fun k hk => World.putObj_heap_other (fun e => hl (e ▸ hk))⟩
theorem Keep.setCell (w : World) (p : Addr) (u : Value) (hl : ¬ S p.block) : Keep S w (w.setCell p u) :=
  ⟨rfl, rfl, rfl, by simp [World.setCell], fun k hk => Below.heap_setCell _ _ _ _ (fun e => hl (e ▸ hk))⟩
theorem Keep.grown {row : Option Nat} (h : a.grownBy b row) (hS : ∀ k, S k → k < a.heap.size) (hr : ∀ k, row = some k → ¬ S k) : Keep S a b :=
  ⟨h.os, h.tape, h.output, h.size, fun k hk => h.block k (hS k hk) (fun e => hr k e.symm hk)⟩
theorem Keep.cell (h : Keep S a b) {p : Addr} (hp : S p.block) : b.cell? p = a.cell? p := World.cell?_of_block (h.block p.block hp)
end

theorem others_of_below {a b : World} (h : Below a.heap.size a b) : KeepsOthers a b := ⟨h.size, fun k _ hk _ => (h.block k (Array.getElem?_eq_some_iff.1 hk).1).trans hk⟩

/-- What holds goes on holding when new blocks are laid. -/
def Stable (J : World → Prop) : Prop := ∀ W W', J W → Below W.heap.size W W' → J W'
/-- What holds goes on holding when a block that is no cells, from B on, is turned. -/
def Deaf (B : Nat) (J : World → Prop) : Prop := ∀ W l o o', J W → B ≤ l → W.heap[l]? = some o → o.isCells = false → J (W.putObj l o')

theorem Rd.putObj {w : World} {A : Option Addr} {xs : List Value} (h : Rd w A xs) {l : Nat} {o : Obj} (o' : Obj) (hl : w.heap[l]? = some o) (ho : o.isCells = false) : Rd (w.putObj l o') A xs := by
  intro hx
  obtain ⟨b, off, rfl, hlt, hc⟩ := h hx
  refine ⟨b, off, rfl, by simpa using hlt, fun j u hu => ?_⟩
  have hcell := hc j u hu
  refine (World.cell?_of_block (World.putObj_heap_other ?_)).trans hcell
  rintro e
  obtain ⟨o2, h2, h3⟩ := cells_of_cell hcell
  dsimp only at e h2
  rw [e, hl] at h2
  cases h2
  rw [ho] at h3
  cases h3

/-- The iterator gf with what it has captured hands out xs one by one, each by arguments that V allows; it leans on the blocks of S alone. -/
def Iter {α : Type} (P : Program) (n gf : Nat) (lb : Array Value) (V : α → Array Value → World → Prop) (xs : List α) (S : Nat → Prop) (w : World) : Prop :=
  ∀ (l : Nat) (J : List α → World → Prop) (W : World), Keep S w W → (∀ pre, Stable (J pre)) →
    (∀ pre x rest W1 args, xs = pre ++ x :: rest → J pre W1 → V x args W1 → YieldAt Fence.wide (n - 1) P l args W1 fun e W' => e = .returned (.bool true) ∧ J (pre ++ [x]) W' ∧ Keep S W1 W') →
    J [] W → CallsIn Fence.wide n P gf (#[.func (.yield l) #[] #[]] ++ lb) W fun e W' => (∃ v, e = .returned v) ∧ J xs W'

/-- How the body of a round may be left. -/
def endsRound {α : Type} (S : Nat → Prop) (I : List α → World → Prop) (pre : List α) (W : World) : Exit → Act → World → Prop
  | .normal, _, W' => KeepsOthers W W' ∧ Keep S W W' ∧ I pre W'
  | _, _, _ => False

/-- THE STATEMENT 'for .. := range g { .. }', its body never leaving early, in a function that runs in no round. -/
theorem range_law {α : Type} {P : Program} {n : Nat} {g : Operand} {ps : Array Tmp} {assign body : Code} {Q : Exit → Act → World → Prop} {a : Act} {w : World}
    {gf : Nat} {lb : Array Value} (hg : a.eval g = .func (.func gf) #[] lb) (eg : ∀ args w, (callFunc gf args).run P w = .ok (.enter gf args) w)
    {V : α → Array Value → World → Prop} {xs : List α} {S : Nat → Prop} (hseq : Iter P (n - 1) gf lb V xs S w) (hS : ∀ k, S k → k < w.heap.size)
    (hps : ∀ x args W, V x args W → args.size = ps.size) (hV : ∀ x args, Deaf w.heap.size (V x args))
    (I : List α → World → Prop) (hI : ∀ pre, Stable (I pre)) (hI' : ∀ pre, Deaf w.heap.size (I pre)) (h0 : I [] w) (a₁ : Array Value → Act)
    (hassign : ∀ (l : Nat) (x : α) (args : Array Value) (W : World) (K : Act → World → Prop), V x args W → K (a₁ args) W →
      assign.wpIn (Fence.wide.inRound l) (n - 1 - 1) P (Exit.then K (fun _ _ _ => False)) { tmps := (ps.zip args).foldl (fun t (p, v) => t.setIfInBounds p v) a.tmps, defers := [] } W)
    (hbody : ∀ (l : Nat) (pre : List α) (x : α) (rest : List α) (args : Array Value) (W : World), xs = pre ++ x :: rest → I pre W → V x args W → w.heap.size ≤ W.heap.size →
      body.wpIn (Fence.wide.inRound l) (n - 1 - 1) P (endsRound S I (pre ++ [x]) W) (a₁ args) W)
    (hdone : ∀ (D : Nat) (W : World), w.heap.size ≤ D → I xs W → W.heap[D]? = some (.deferred (some [])) → Q .normal { a with defers := { target := .collected D, args := #[] } :: a.defers } W) :
    (Code.rangeFunc g ps assign body).wpIn Fence.wide n P Q a w := by
  refine wpIn_rangeFunc fun fn _ => ?_
  obtain ⟨rec, hrec⟩ : ∃ rec : LoopState → Loop, rec = fun st => { state := st, pending := none, fn, tmps := a.tmps, params := ps, assign, body, defers := w.heap.size } := ⟨_, rfl⟩
  obtain ⟨W1, hW1⟩ : ∃ W1, (w.alloc (.deferred (some []))).alloc (.loop (rec .ready)) = W1 := ⟨_, rfl⟩
  have hbel : Below w.heap.size w W1 := by rw [← hW1]; exact ((Below.refl _ w).alloc (Nat.le_refl _) _).alloc (by simp) _
  have hD1 : W1.heap[w.heap.size]? = some (.deferred (some [])) := by
    rw [← hW1]; exact (Below.heap_alloc _ _ _ (by simp)).trans (World.alloc_heap_new w _)
  have hL1 : W1.heap[w.heap.size + 1]? = some (.loop (rec .ready)) := by
    rw [← hW1]; have := World.alloc_heap_new (w.alloc (.deferred (some []))) (.loop (rec .ready)); rwa [World.size_alloc] at this
  refine ⟨w.heap.size + 1, [{ target := .collected w.heap.size, args := #[] }], W1, { target := .fn (.func gf) lb, args := #[.func (.yield (w.heap.size + 1)) #[] #[]] }, W1, gf,
    #[.func (.yield (w.heap.size + 1)) #[] #[]] ++ lb, W1, ?_, ?_, fun _ _ => trivial, ?_, fun h => (by cases h), ?_⟩
  · rw [← hW1, hrec]; exact run_enterLoop_outer _ _ _ _ _
  · simp only [resolve, hg]
    simp [go_sem]
  · simp [invoke, go_sem, eg]
  · have hrun := hseq (w.heap.size + 1)
      (fun pre W => (I pre W ∧ w.heap.size + 1 < W.heap.size) ∧ W.heap[w.heap.size + 1]? = some (.loop (rec .ready)) ∧ W.heap[w.heap.size]? = some (.deferred (some [])))
      W1 (Keep.of_below hbel hS)
      (fun pre W W' ⟨⟨h1, h2⟩, h3, h4⟩ hb => ⟨⟨hI pre W W' h1 hb, Nat.lt_of_lt_of_le h2 hb.size⟩, (hb.block _ h2).trans h3, (hb.block _ (by omega)).trans h4⟩)
      ?_ ⟨⟨hI _ _ _ h0 hbel, (Array.getElem?_eq_some_iff.1 hL1).1⟩, hL1, hD1⟩
    · refine hrun.mono ?_
      rintro e W2 ⟨⟨v, rfl⟩, ⟨hi, _⟩, hl, hd⟩
      have he := run_endLoop (P := P) hl (by rw [hrec]; simp)
      rw [hrec] at he hl
      exact ⟨none, _, he, hdone _ _ (Nat.le_refl _) (hI' _ _ _ _ _ hi (by omega) hl rfl) ((World.putObj_heap_other (by omega)).trans hd)⟩
    · rintro pre x rest W args hxs ⟨⟨hi, hlt⟩, hl, hd⟩ hv
      have hy := run_yield (P := P) (args := args) hl (by rw [hrec]; exact hps x args W hv)
      rw [hrec] at hy
      have hbusy : ∃ W3, W.putObj (w.heap.size + 1) (.loop { rec .ready with state := .busy }) = W3 := ⟨_, rfl⟩
      obtain ⟨W3, hW3⟩ := hbusy
      have hnS : ¬ S (w.heap.size + 1) := fun h => by have := hS _ h; omega
      have hk3 : Keep S W W3 := by rw [← hW3]; exact Keep.putObj _ _ _ hnS
      have hi3 : I pre W3 := by rw [← hW3]; exact hI' _ _ _ _ _ hi (by omega) hl rfl
      have hv3 : V x args W3 := by rw [← hW3]; exact hV _ _ _ _ _ _ hv (by omega) hl rfl
      have hl3 : W3.heap[w.heap.size + 1]? = some (.loop { rec .ready with state := .busy }) := by rw [← hW3]; exact World.putObj_heap_same hlt
      have hd3 : W3.heap[w.heap.size]? = some (.deferred (some [])) := by rw [← hW3]; exact (World.putObj_heap_other (by omega)).trans hd
      have hsz : w.heap.size ≤ W3.heap.size := by rw [← hW3]; simp; omega
      refine ⟨fn, _, assign, body, hy, roundIn_of_wpIn trivial (hassign _ x args W _ hv ⟨W3, by rw [← hW3]; exact run_beginRound hl (by rw [hrec]), ?_⟩)⟩
      refine wpIn_mono (hbody _ pre x rest args W3 hxs hi3 hv3 hsz) ?_
      rintro e a4 W4 hp
      cases e with
      | normal =>
        obtain ⟨ho, hk, hi4⟩ := hp
        have hl4 := ho.same _ _ hl3 rfl
        have hd4 := ho.same _ _ hd3 rfl
        have he := run_endRound (P := P) none hl4
        have hrr : ({ ({ rec .ready with state := .busy } : Loop) with state := .ready, pending := none } : Loop) = rec .ready := by rw [hrec]
        simp only [Option.isNone_none, if_true, hrr] at he
        have hl4' : w.heap.size + 1 < W4.heap.size := (Array.getElem?_eq_some_iff.1 hl4).1
        exact ⟨_, _, he, rfl, ⟨⟨hI' _ _ _ _ _ hi4 (by omega) hl4 rfl, by simpa using hl4'⟩, World.putObj_heap_same hl4', (World.putObj_heap_other (by omega)).trans hd4⟩,
          hk3.trans (hk.trans (Keep.putObj _ _ _ hnS))⟩
      | ret => exact hp.elim
      | exit id => exact hp.elim
      | goto t => exact hp.elim
      | panic ch => exact hp.elim
      | outgrown => exact hp.elim
end Go.Proofs.Ytkcjiejdjdcbeaa

/- A loop over a function whose round makes variables of its own before its body. A plain law over any program; no condition. -/
namespace Go.Proofs.Ytkcjiejdjdcbeaa
open Go.RowKit

/-- The same where the round's assignment makes variables of its own. THE STATEMENT 'for .. := range g { .. }', its body never leaving early, in a function that runs in no round. -/
theorem range_law2 {α : Type} {P : Program} {n : Nat} {g : Operand} {ps : Array Tmp} {assign body : Code} {Q : Exit → Act → World → Prop} {a : Act} {w : World}
    {gf : Nat} {lb : Array Value} (hg : a.eval g = .func (.func gf) #[] lb) (eg : ∀ args w, (callFunc gf args).run P w = .ok (.enter gf args) w)
    {V : α → Array Value → World → Prop} {xs : List α} {S : Nat → Prop} (hseq : Iter P (n - 1) gf lb V xs S w) (hS : ∀ k, S k → k < w.heap.size)
    (hps : ∀ x args W, V x args W → args.size = ps.size) 
    (I : List α → World → Prop) (hI : ∀ pre, Stable (I pre)) (hI' : ∀ pre, Deaf w.heap.size (I pre)) (h0 : I [] w) (Z : α → Act → World → Prop) (hZ : ∀ x a, Deaf w.heap.size (Z x a))
    (hassign : ∀ (l : Nat) (x : α) (args : Array Value) (W : World) (K : Act → World → Prop), V x args W → w.heap.size ≤ W.heap.size → (∀ a₁ W', Below W.heap.size W W' → Z x a₁ W' → K a₁ W') →
      assign.wpIn (Fence.wide.inRound l) (n - 1 - 1) P (Exit.then K (fun _ _ _ => False)) { tmps := (ps.zip args).foldl (fun t (p, v) => t.setIfInBounds p v) a.tmps, defers := [] } W)
    (hbody : ∀ (l : Nat) (pre : List α) (x : α) (rest : List α) (a₁ : Act) (W : World), xs = pre ++ x :: rest → I pre W → Z x a₁ W → w.heap.size ≤ W.heap.size →
      body.wpIn (Fence.wide.inRound l) (n - 1 - 1) P (endsRound S I (pre ++ [x]) W) a₁ W)
    (hdone : ∀ (D : Nat) (W : World), w.heap.size ≤ D → I xs W → W.heap[D]? = some (.deferred (some [])) → Q .normal { a with defers := { target := .collected D, args := #[] } :: a.defers } W) :
    (Code.rangeFunc g ps assign body).wpIn Fence.wide n P Q a w := by
  refine wpIn_rangeFunc fun fn _ => ?_
  obtain ⟨rec, hrec⟩ : ∃ rec : LoopState → Loop, rec = fun st => { state := st, pending := none, fn, tmps := a.tmps, params := ps, assign, body, defers := w.heap.size } := ⟨_, rfl⟩
  obtain ⟨W1, hW1⟩ : ∃ W1, (w.alloc (.deferred (some []))).alloc (.loop (rec .ready)) = W1 := ⟨_, rfl⟩
  have hbel : Below w.heap.size w W1 := by rw [← hW1]; exact ((Below.refl _ w).alloc (Nat.le_refl _) _).alloc (by simp) _
  have hD1 : W1.heap[w.heap.size]? = some (.deferred (some [])) := by
    rw [← hW1]; exact (Below.heap_alloc _ _ _ (by simp)).trans (World.alloc_heap_new w _)
  have hL1 : W1.heap[w.heap.size + 1]? = some (.loop (rec .ready)) := by
    rw [← hW1]; have := World.alloc_heap_new (w.alloc (.deferred (some []))) (.loop (rec .ready)); rwa [World.size_alloc] at this
  refine ⟨w.heap.size + 1, [{ target := .collected w.heap.size, args := #[] }], W1, { target := .fn (.func gf) lb, args := #[.func (.yield (w.heap.size + 1)) #[] #[]] }, W1, gf,
    #[.func (.yield (w.heap.size + 1)) #[] #[]] ++ lb, W1, ?_, ?_, fun _ _ => trivial, ?_, fun h => (by cases h), ?_⟩
  · rw [← hW1, hrec]; exact run_enterLoop_outer _ _ _ _ _
  · simp only [resolve, hg]
    simp [go_sem]
  · simp [invoke, go_sem, eg]
  · have hrun := hseq (w.heap.size + 1)
      (fun pre W => (I pre W ∧ w.heap.size + 1 < W.heap.size) ∧ W.heap[w.heap.size + 1]? = some (.loop (rec .ready)) ∧ W.heap[w.heap.size]? = some (.deferred (some [])))
      W1 (Keep.of_below hbel hS)
      (fun pre W W' ⟨⟨h1, h2⟩, h3, h4⟩ hb => ⟨⟨hI pre W W' h1 hb, Nat.lt_of_lt_of_le h2 hb.size⟩, (hb.block _ h2).trans h3, (hb.block _ (by omega)).trans h4⟩)
      ?_ ⟨⟨hI _ _ _ h0 hbel, (Array.getElem?_eq_some_iff.1 hL1).1⟩, hL1, hD1⟩
    · refine hrun.mono ?_
      rintro e W2 ⟨⟨v, rfl⟩, ⟨hi, _⟩, hl, hd⟩
      have he := run_endLoop (P := P) hl (by rw [hrec]; simp)
      rw [hrec] at he hl
      exact ⟨none, _, he, hdone _ _ (Nat.le_refl _) (hI' _ _ _ _ _ hi (by omega) hl rfl) ((World.putObj_heap_other (by omega)).trans hd)⟩
    · rintro pre x rest W args hxs ⟨⟨hi, hlt⟩, hl, hd⟩ hv
      have hy := run_yield (P := P) (args := args) hl (by rw [hrec]; exact hps x args W hv)
      rw [hrec] at hy
      refine ⟨fn, _, assign, body, hy, roundIn_of_wpIn trivial (hassign _ x args W _ hv (by omega) fun a₁ W' hbW hz => ?_)⟩
      have hlW' : W'.heap[w.heap.size + 1]? = some (.loop (rec .ready)) := (hbW.block _ hlt).trans hl
      have hdW' : W'.heap[w.heap.size]? = some (.deferred (some [])) := (hbW.block _ (by omega)).trans hd
      have hiW' : I pre W' := hI _ _ _ hi hbW
      have hltW' : w.heap.size + 1 < W'.heap.size := Nat.lt_of_lt_of_le hlt hbW.size
      have hkW' : Keep S W W' := Keep.of_below hbW fun k hk => by have := hS k hk; omega
      have hbusy : ∃ W3, W'.putObj (w.heap.size + 1) (.loop { rec .ready with state := .busy }) = W3 := ⟨_, rfl⟩
      obtain ⟨W3, hW3⟩ := hbusy
      have hnS : ¬ S (w.heap.size + 1) := fun h => by have := hS _ h; omega
      have hk3 : Keep S W W3 := by rw [← hW3]; exact hkW'.trans (Keep.putObj _ _ _ hnS)
      have hi3 : I pre W3 := by rw [← hW3]; exact hI' _ _ _ _ _ hiW' (by omega) hlW' rfl
      have hz3 : Z x a₁ W3 := by rw [← hW3]; exact hZ _ _ _ _ _ _ hz (by omega) hlW' rfl
      have hl3 : W3.heap[w.heap.size + 1]? = some (.loop { rec .ready with state := .busy }) := by rw [← hW3]; exact World.putObj_heap_same hltW'
      have hd3 : W3.heap[w.heap.size]? = some (.deferred (some [])) := by rw [← hW3]; exact (World.putObj_heap_other (by omega)).trans hdW'
      have hsz : w.heap.size ≤ W3.heap.size := by rw [← hW3]; simp; omega
      refine ⟨W3, by rw [← hW3]; exact run_beginRound hlW' (by rw [hrec]), ?_⟩
      refine wpIn_mono (hbody _ pre x rest a₁ W3 hxs hi3 hz3 hsz) ?_
      rintro e a4 W4 hp
      cases e with
      | normal =>
        obtain ⟨ho, hk, hi4⟩ := hp
        have hl4 := ho.same _ _ hl3 rfl
        have hd4 := ho.same _ _ hd3 rfl
        have he := run_endRound (P := P) none hl4
        have hrr : ({ ({ rec .ready with state := .busy } : Loop) with state := .ready, pending := none } : Loop) = rec .ready := by rw [hrec]
        simp only [Option.isNone_none, if_true, hrr] at he
        have hl4' : w.heap.size + 1 < W4.heap.size := (Array.getElem?_eq_some_iff.1 hl4).1
        exact ⟨_, _, he, rfl, ⟨⟨hI' _ _ _ _ _ hi4 (by omega) hl4 rfl, by simpa using hl4'⟩, World.putObj_heap_same hl4', (World.putObj_heap_other (by omega)).trans hd4⟩,
          hk3.trans (hk.trans (Keep.putObj _ _ _ hnS))⟩
      | ret => exact hp.elim
      | exit id => exact hp.elim
      | goto t => exact hp.elim
      | panic ch => exact hp.elim
      | outgrown => exact hp.elim
end Go.Proofs.Ytkcjiejdjdcbeaa

/- A function that has run several loops over functions, one after the other: what it owes when it leaves. A plain law over any program. -/
namespace Go.Proofs.Ytkcjiejdjdcbeaa
open Go.RowKit

/-- Each loop over a function leaves a mark among what is deferred; none has collected a call. -/
def Marks (B : Nat) (Ds : List Nat) (w : World) : Prop := Ds.Nodup ∧ ∀ D ∈ Ds, B ≤ D ∧ w.heap[D]? = some (.deferred (some []))
theorem Marks.bel {B : Nat} {Ds : List Nat} {w w' : World} (h : Marks B Ds w) (hb : Below w.heap.size w w') : Marks B Ds w' :=
  ⟨h.1, fun D hD => ⟨(h.2 D hD).1, (hb.block D (Array.getElem?_eq_some_iff.1 (h.2 D hD).2).1).trans (h.2 D hD).2⟩⟩
def marked (Ds : List Nat) : List Deferred := Ds.map fun D => { target := .collected D, args := #[] }

theorem leaves_marks {F : Fence} {n : Nat} {P : Program} {fn : Func} {tmps : Array Value} {R : Ending → World → Prop} {B : Nat} {J : World → Prop} (hJ : Deaf B J) (hR : ∀ w, J w → LeavesInM F n P fn tmps R [] .returning w) :
    ∀ (Ds : List Nat) (w : World), Marks B Ds w → J w → LeavesInM F n P fn tmps R (marked Ds) .returning w
  | [], w, _, h => hR w h
  | D :: Ds, w, hm, h => by
    obtain ⟨h1, h2⟩ := hm.2 D (by simp)
    refine ⟨by simp, .inl ⟨D, _, rfl, run_takeDeferred h2, leaves_marks hJ hR Ds _ ⟨(List.nodup_cons.1 hm.1).2, fun D' hD' => ?_⟩ (hJ w D _ _ h h1 h2 rfl)⟩⟩
    obtain ⟨k1, k2⟩ := hm.2 D' (by simp [hD'])
    refine ⟨k1, (World.putObj_heap_other ?_).trans k2⟩
    rintro rfl
    exact (List.nodup_cons.1 hm.1).1 hD'
end Go.Proofs.Ytkcjiejdjdcbeaa

/- Words for memory, more: a slice that lies in a block of a known element type. Plain lemmas; no condition. -/
namespace Go.Proofs.Ytkcjiejdjdcbeaa
open Go.RowKit

/-- A slice that reads as these cells, and lies in a block of the element type t. -/
def RdT (w : World) (t : TypeId) (A : Option Addr) (xs : List Value) : Prop := Rd w A xs ∧ ∀ b off, A = some ⟨b, off, none⟩ → ∃ cs fr, w.heap[b]? = some (.cells cs t fr)

/-- All blocks of the element type t lie as they lay. -/
def KeepT (t : TypeId) (w w' : World) : Prop := w.heap.size ≤ w'.heap.size ∧ ∀ (b : Nat) (cs : Array Value) (fr : Nat × Nat), w.heap[b]? = some (Obj.cells cs t fr) → w'.heap[b]? = some (Obj.cells cs t fr)

section
variable {w w' w1 : World} {t e : TypeId} {A : Option Addr} {xs : List Value}
theorem KeepT.refl (t : TypeId) (w : World) : KeepT t w w := ⟨Nat.le_refl _, fun _ _ _ h => h⟩
theorem KeepT.trans (h : KeepT t w w') (k : KeepT t w' w1) : KeepT t w w1 := ⟨Nat.le_trans h.1 k.1, fun b cs fr hb => k.2 b cs fr (h.2 b cs fr hb)⟩
theorem KeepT.bel (hb : Below w.heap.size w w') : KeepT t w w' := ⟨hb.size, fun b _ _ h => (hb.block b (Array.getElem?_eq_some_iff.1 h).1).trans h⟩
theorem KeepT.grown {row : Option Nat} (hg : w.grownBy w' row) (hr : ∀ k, row = some k → ∃ cs fr, w.heap[k]? = some (.cells cs e fr)) (hte : t ≠ e) : KeepT t w w' :=
  ⟨hg.size, fun b cs fr h => (hg.block b (Array.getElem?_eq_some_iff.1 h).1 (fun he => by
    obtain ⟨cs', fr', h'⟩ := hr b he.symm
    rw [h] at h'
    injection h' with h'
    injection h' with _ h'
    exact hte h')).trans h⟩
theorem KeepT.setCell {B : Nat} {cs : Array Value} {fr : Nat × Nat} (hB : w.heap[B]? = some (.cells cs e fr)) (hte : t ≠ e) (i : Nat) (u : Value) : KeepT t w (w.setCell ⟨B, i, none⟩ u) :=
  ⟨by simp [World.setCell], fun b cs' fr' h => (Below.heap_setCell _ _ _ _ (fun he => by
    dsimp only at he
    subst he
    rw [h] at hB
    injection hB with hB
    injection hB with _ hB
    exact hte hB)).trans h⟩
theorem KeepT.putObj {l : Nat} {o : Obj} (o' : Obj) (hl : w.heap[l]? = some o) (ho : o.isCells = false) : KeepT t w (w.putObj l o') :=
  ⟨by simp, fun b cs fr h => (World.putObj_heap_other (fun he => by subst he; rw [h] at hl; cases hl; cases ho)).trans h⟩

theorem RdT.keep (h : RdT w t A xs) (hk : KeepT t w w') : RdT w' t A xs := by
  refine ⟨fun hx => ?_, fun b off hA => ?_⟩
  · obtain ⟨b, off, rfl, hlt, hc⟩ := h.1 hx
    obtain ⟨cs, fr, hb⟩ := h.2 b off rfl
    exact ⟨b, off, rfl, Nat.lt_of_lt_of_le hlt hk.1, fun j u hu => (World.cell?_of_block (w := w) (w' := w') (a := ⟨b, off + j, none⟩) ((hk.2 b cs fr hb).trans hb.symm)).trans (hc j u hu)⟩
  · obtain ⟨cs, fr, hb⟩ := h.2 b off hA
    exact ⟨cs, fr, hk.2 b cs fr hb⟩
theorem RdT.bel (h : RdT w t A xs) (hb : Below w.heap.size w w') : RdT w' t A xs := h.keep (KeepT.bel hb)
theorem RdT.putObj (h : RdT w t A xs) {l : Nat} {o : Obj} (o' : Obj) (hl : w.heap[l]? = some o) (ho : o.isCells = false) : RdT (w.putObj l o') t A xs := h.keep (KeepT.putObj o' hl ho)
theorem Blk.rdT {g : Nat} {cs : List Value} (h : Blk w g t cs) {xs : List Value} (hx : xs <+: cs) : RdT w t (some ⟨g, 0, none⟩) xs :=
  ⟨h.rd hx, fun b off hA => by injection hA with hA; injection hA with h1; subst h1; exact ⟨_, _, h⟩⟩
end

/-- make([]T, n) as an equation over every world. -/
theorem run_make_rowN {P : Program} (t e : TypeId) (i : TypeInfo) (z : Value) (ht : P.underlying t = some (.slice e)) (hi : P.info? e = some i) (hz : i.zero = some z)
    (kl kc : IntKind) (n c : Nat) (hnc : n ≤ c) (hbytes : i.bytes * c ≤ 281474976710656) (h63 : c ≤ 9223372036854775807) (w : World) :
    (Instr.makeSlice t (.int kl (n : Int)) (.int kc (c : Int))).run P w = .ok (.slice (some ⟨w.heap.size, 0, none⟩) n c) (w.alloc (.cells (madeCells z.cells (c * i.size)) e)) := by
  have hb : (i.bytes : Int) * (c : Int) ≤ 281474976710656 := by
    have h : ((i.bytes * c : Nat) : Int) ≤ 281474976710656 := by omega
    rwa [Int.natCast_mul] at h
  have hr := run_make (P := P) w t e i z ht hi hz kl kc n c (by omega) (by omega) hb (by omega)
  simp only [Int.toNat_natCast] at hr
  exact hr

/-- One element of two cells in a block that is known whole. -/
theorem Blk.g_at {w : World} {b : Nat} {t : TypeId} {l : List (Int × Int)} (h : Blk w b t (gs l)) {k : Nat} {g : Int × Int} (hk : l[k]? = some g) :
    w.cell? ⟨b, k * 2, none⟩ = some (.int .i64 g.1) ∧ w.cell? ⟨b, k * 2 + 1, none⟩ = some (.int .i64 g.2) := by
  obtain ⟨hlt, rfl⟩ := List.getElem?_eq_some_iff.1 hk
  obtain ⟨h1, h2⟩ := gs_at hlt
  exact ⟨(h.cell _).trans h1, (h.cell _).trans h2⟩
theorem gs_set {l : List (Int × Int)} {k : Nat} (hk : k < l.length) (g : Int × Int) : ((gs l).set (k * 2) (.int .i64 g.1)).set (k * 2 + 1) (.int .i64 g.2) = gs (l.set k g) := by
  induction l generalizing k with
  | nil => simp at hk
  | cons a l ih =>
    cases k with
    | zero => rfl
    | succ k =>
      rw [gs_cons, List.set_cons_succ, gs_cons, ← ih (by simpa using hk), show (k + 1) * 2 = k * 2 + 1 + 1 from by omega, show k * 2 + 1 + 1 + 1 = (k * 2 + 1) + 1 + 1 from by omega]
      rfl
theorem Blk.setG {w : World} {b : Nat} {t : TypeId} {l : List (Int × Int)} (h : Blk w b t (gs l)) {k : Nat} {g : Int × Int} (hk : k < l.length) :
    Blk ((w.setCell ⟨b, k * 2, none⟩ (.int .i64 g.1)).setCell ⟨b, k * 2 + 1, none⟩ (.int .i64 g.2)) b t (gs (l.set k g)) := by
  rw [← gs_set hk]
  exact (h.set_ _ _).set_ _ _

/-- 'x = append(x, ..)', x a variable in a box of the call's own: all that the walk owes behind it. -/
theorem box_append {S : Nat → Prop} {W w1 : World} {n₀ B : Nat} {t e : TypeId} {size : Nat} {v v' : Value} {k m : Nat} {xs ys : List Value} {tmp : Obj}
    (hv : Boxed W B t v) (hte : t ≠ e) (hrow : W.ownsRow n₀ e size v k xs) (hown' : w1.ownsRow n₀ e size v' m ys) (hgrow : (W.alloc tmp).grownBy w1 v.ownBlock)
    (hS : ∀ k, S k → k < n₀ ∧ k ≠ B) (hn : n₀ ≤ W.heap.size) :
    Boxed w1 B t v ∧ Boxed (w1.setCell ⟨B, 0, none⟩ v') B t v' ∧ (w1.setCell ⟨B, 0, none⟩ v').ownsRow n₀ e size v' m ys ∧ KeepsOthers W (w1.setCell ⟨B, 0, none⟩ v') ∧ Keep S W (w1.setCell ⟨B, 0, none⟩ v') ∧
      ∀ t', t' ≠ t → t' ≠ e → KeepT t' W (w1.setCell ⟨B, 0, none⟩ v') := by
  have hv1 : Boxed w1 B t v := (hv.alloc tmp).kept hgrow (hv.not_row hte hrow)
  have hrw : ∀ j, v.ownBlock = some j → n₀ ≤ j ∧ ∃ cs fr, (W.alloc tmp).heap[j]? = some (.cells cs e fr) := fun j ej => by
    rcases (hrow.alloc tmp).2 with ⟨rfl, _⟩ | ⟨g, cap, cur, rfl, hb, hgb, _⟩
    · simp [Value.ownBlock] at ej
    · obtain rfl : g = j := by simpa [Value.ownBlock] using ej
      exact ⟨hb, _, _, hgb⟩
  refine ⟨hv1, hv1.set v', hown'.kept (grownBy_setCell' w1 B v') (.inr (hv1.not_row hte hown').symm), ?_, ?_, fun t' h1 h2 => ?_⟩
  · refine ((KeepsOthers.alloc W tmp).trans (KeepsOthers.of_grownBy hgrow fun j o ej hj => ?_)).trans (KeepsOthers.setCell _ _ _)
    obtain ⟨_, cs, fr, h3⟩ := hrw j ej
    rw [h3] at hj; cases hj; rfl
  · refine ((Keep.of_below ((Below.refl _ W).alloc (Nat.le_refl _) tmp) fun k hk => by have := (hS k hk).1; omega).trans
      (Keep.grown hgrow (fun k hk => by have := (hS k hk).1; simp; omega) fun j ej hj => ?_)).trans (Keep.setCell _ _ _ fun hk => (hS _ hk).2 rfl)
    have h3 := (hrw j ej).1
    have h4 := (hS j hj).1
    omega
  · exact ((KeepT.bel ((Below.refl _ W).alloc (Nat.le_refl _) tmp)).trans (KeepT.grown hgrow (fun k hk => (hrw k hk).2) h2)).trans (KeepT.setCell hv1 h1 0 v')

theorem ownsRow_slice {W : World} {base : Nat} {e : TypeId} {size n : Nat} {v : Value} {xs : List Value} (h : W.ownsRow base e size v n xs) : ∃ A c, v = .slice A n c := by
  rcases h.2 with ⟨rfl, rfl⟩ | ⟨g, cap, cur, rfl, _⟩
  · exact ⟨none, 0, rfl⟩
  · exact ⟨_, _, rfl⟩
theorem ownsRow_bel {W W' : World} {base : Nat} {e : TypeId} {size n : Nat} {v : Value} {xs : List Value} (h : W.ownsRow base e size v n xs) (hb : Below W.heap.size W W') : W'.ownsRow base e size v n xs :=
  h.kept (row := none) ⟨hb.os, hb.tape, hb.output, hb.size, fun k hk _ => hb.block k hk⟩ (by cases v.ownBlock <;> simp)
theorem boxed_bel {W W' : World} {B : Nat} {t : TypeId} {v : Value} (h : Boxed W B t v) (hb : Below W.heap.size W W') : Boxed W' B t v := (hb.block B h.lt).trans h
theorem boxed_putObj {W : World} {B : Nat} {t : TypeId} {v : Value} (h : Boxed W B t v) {l : Nat} {o : Obj} (o' : Obj) (hl : W.heap[l]? = some o) (ho : o.isCells = false) : Boxed (W.putObj l o') B t v := by
  refine (World.putObj_heap_other ?_).trans h
  rintro rfl
  rw [show W.heap[B]? = _ from h] at hl
  cases hl
  cases ho
end Go.Proofs.Ytkcjiejdjdcbeaa

/- Appending what a slice reads as; a slice that the call owns, as one that reads. Plain laws; no condition. -/
namespace Go.Proofs.Ytkcjiejdjdcbeaa
open Go.RowKit

theorem RdT.of_own {w : World} {base : Nat} {e : TypeId} {size n c : Nat} {A : Option Addr} {xs : List Value} (h : w.ownsRow base e size (.slice A n c) n xs) : RdT w e A xs := by
  refine ⟨Rd.of_own h, ?_⟩
  rintro b off rfl
  rcases h.2 with ⟨hv, _⟩ | ⟨g, cap, cur, hv, _, hh, _⟩
  · cases hv
  · injection hv with e1
    injection e1 with e1
    injection e1 with e1
    subst e1
    exact ⟨_, _, hh⟩

/-- 'append(s, x...)', s the call's own, x a slice that reads as these cells (nil, too). -/
theorem wpList_append_rd {P : Program} (w : World) {ops : Array Oper} {rest : List Oper} {o : Oper} {a : Act} {Q : Exit → Act → World → Prop} (hgd : o.guard = none) (s x : Operand) (t : TypeId)
    (ho : o.op = .call { callee := .builtin .append, args := #[s, x], argTypes := #[t, t] })
    (base : Nat) (e : TypeId) (i : TypeInfo) (z : Value) (size bytes : Nat) (ht : P.underlying t = some (.slice e)) (hi : P.info? e = some i) (hz : i.zero = some z)
    (hsize : i.size = size) (hby : i.bytes = bytes) (hzs : z.cells.size = size) (hsz : 0 < size)
    (v : Value) (n : Nat) (xs : List Value) (hs : a.eval s = v) (hown : w.ownsRow base e size v n xs)
    (A : Option Addr) (m c : Nat) (news : List Value) (hx : a.eval x = .slice A m c) (hl : news.length = m * size) (hr : Rd w A news) (h1 : ∀ u ∈ news, u.oneCell' = true)
    (h63 : n + m ≤ maxLen) (hbytes : (n + m) * bytes ≤ 140737488355328) (hbase : base ≤ w.heap.size)
    (h : ∀ v' w', w'.ownsRow base e size v' (n + m) (xs ++ news) → w.grownBy w' v.ownBlock → wpList P ops Q rest (a.put o.dst v') w') :
    wpList P ops Q (o :: rest) a w := by
  rcases A with _ | ad
  · have hn : news = [] := by
      by_cases hn : news = []
      · exact hn
      · obtain ⟨_, _, hA, _⟩ := hr hn
        cases hA
    subst hn
    have hm : m = 0 := by
      rcases Nat.eq_zero_or_pos m with h0 | h0
      · exact h0
      · have := Nat.mul_pos h0 hsz
        simp at hl
        omega
    subst hm
    have hrun : (Builtin.append_ #[t, t] o.type #[v, .slice none 0 c]).run P w = .ok v w := by
      rcases hown.2 with ⟨rfl, rfl⟩ | ⟨g, cap, cur, rfl, _, _, hnc, _⟩
      · simp [Builtin.append_, run_underlying ht, sizeOf, typeInfo, hi, Builtin.lenOf, Builtin.firstCells]
      · simp [Builtin.append_, run_underlying ht, sizeOf, typeInfo, hi, Builtin.lenOf, Builtin.firstCells, hnc, storeCells]
    refine wpList_plain hgd fun K hK => ?_
    unfold Oper.wp
    simp [execOp, ho, resolve, invoke, builtin, hs, hx, hrun, Result.andThen]
    exact hK _ _ (h v w (by simpa using hown) ⟨rfl, rfl, rfl, Nat.le_refl _, fun _ _ _ => rfl⟩)
  · have hnews : ∀ j u, news[j]? = some u → w.cell? (ad.add j) = some u := by
      intro j u hu
      obtain ⟨b, off, hA, _, hc⟩ := hr (by rintro rfl; simp at hu)
      cases hA
      have hadd : (⟨b, off, none⟩ : Addr).add j = ⟨b, off + j, none⟩ := by unfold Addr.add; split <;> simp_all
      rw [hadd]
      exact hc j u hu
    exact wpList_append_own_at w hgd s x t ho base e i z size bytes ht hi hz hsize hby hzs hsz v n xs hs hown ad m c news hx hl hnews h1 h63 hbytes hbase fun v' w' h2 h3 _ _ => h v' w' h2 h3

/-- A new block of one value, read as what is appended. -/
theorem rd_new (w : World) (t : TypeId) (cs : List Value) : Rd (w.alloc (.cells cs.toArray t)) (some ⟨w.heap.size, 0, none⟩) cs := (Blk.new w t cs).rd (List.prefix_refl _)
end Go.Proofs.Ytkcjiejdjdcbeaa

/- A region whose order is open, in which what is read is written late: the loads may be taken first as long as a marked operation, which waits for them, has not come up; what must hold of the world behind each operation is asked only till then. A plain law over any program. -/
namespace Go.Proofs.Ytkcjiejdjdcbeaa
open Go.RowKit

section
variable {P : Program} {ops : Array Oper} {Q : Exit → Act → World → Prop} {md : Region.Mode} {S : World → Prop} {m : Nat}

/-- Whatever order is picked; S holds behind each operation as long as number m has not come up. -/
def AnyM (P : Program) (md : Region.Mode) (ops : Array Oper) (Q : Exit → Act → World → Prop) (S : World → Prop) (m : Nat) : Nat → Array Bool → Act → World → Prop
  | 0, l, a, w => Region.ready md ops l = [] ∧ Q .normal a w
  | n + 1, l, a, w => (Region.ready md ops l = [] → Q .normal a w) ∧
      ∀ i ∈ Region.ready md ops l, wpOp P ops Q i (fun a' w' => ((i == m || l.getD m true) = false → S w') ∧ AnyM P md ops Q S m n (l.setIfInBounds i true) a' w') a w

theorem AnyM.any : ∀ {n : Nat} {l : Array Bool} {a : Act} {w : World}, AnyM P md ops Q S m n l a w → wpAny P md ops Q n l a w
  | 0, _, _, _, h => h
  | _ + 1, _, _, _, h => ⟨h.1, fun i hi => wpOp_mono (fun _ _ k => AnyM.any k.2) (h.2 i hi)⟩

theorem not_waits {i j : Nat} {l : Array Bool} (hi : i ∈ Region.ready md ops l) (hj : j ∈ Region.ready md ops l) {oj : Oper} (ho : ops[j]? = some oj) : ∀ e ∈ oj.after, Region.binds md e = true → e.on ≠ i := by
  intro e he hb heq
  obtain ⟨_, o', ho', hall⟩ := mem_ready.1 hj
  obtain rfl : o' = oj := Option.some.inj (ho'.symm.trans ho)
  have h1 := hall e he hb
  have h0 := (mem_ready.1 hi).1
  rw [heq] at h1
  simp only [Array.getD] at h0 h1
  split at h0
  · rename_i hlt
    rw [dif_pos hlt] at h1
    rw [h0] at h1
    cases h1
  · cases h0

theorem AnyM.first {i : Nat} {oi om : Oper} {v : Value} (hi : ops[i]? = some oi) (hm : ops[m]? = some om) (hmi : ∃ e ∈ om.after, Region.binds md e = true ∧ e.on = i) (hsel : ∀ (j : Nat) (o : Oper) cs b, ops[j]? = some o → o.op ≠ .select cs b)
    (hQ : ∀ c a w, Q (.panic c) (a.put oi.dst v) w → Q (.panic c) a w) (him : i ≠ m) :
    ∀ (n : Nat) (l : Array Bool) (a : Act) (w : World),
      (∀ j oj, ops[j]? = some oj → j ≠ i → l.getD j true = false → (∀ e ∈ oj.after, Region.binds md e = true → e.on ≠ i) → oi.apart ops oj = true) →
      i ∈ Region.ready md ops l → l.getD m true = false → YieldsIf P ops S oi v a → S w →
      AnyM P md ops Q S m n (l.setIfInBounds i true) (a.put oi.dst v) w → AnyM P md ops Q S m (n + 1) l a w := by
  intro n
  induction n with
  | zero =>
    intro l a w _ hr _ hy hS H
    refine ⟨fun h => (by rw [h] at hr; cases hr), fun j hj => ?_⟩
    by_cases e : j = i
    · subst e; exact hy.wpOp hi hS ⟨fun _ => hS, H⟩
    · have k := ready_mono hj e
      rw [H.1] at k
      cases k
  | succ n ih =>
    intro l a w hfree hr hlm hy hS H
    refine ⟨fun h => (by rw [h] at hr; cases hr), fun j hj => ?_⟩
    by_cases e : j = i
    · subst e; exact hy.wpOp hi hS ⟨fun _ => hS, H⟩
    · obtain ⟨hjun, oj, hoj, _⟩ := mem_ready.1 hj
      have hno := not_waits hr hj hoj
      have hjm : j ≠ m := by
        rintro rfl
        obtain rfl : oj = om := Option.some.inj (hoj.symm.trans hm)
        obtain ⟨ed, h1, h2, h3⟩ := hmi
        exact hno ed h1 h2 h3
      have h1 := H.2 j (ready_mono hj e)
      have hfm : (j == m || (l.setIfInBounds i true).getD m true) = false := by
        rw [getD_set_ne true him, hlm]; simp [hjm]
      have h2 := wpOp_putIf hoj (hfree j oj hoj e hjun hno) (fun cs b => hsel i oi cs b hi) (fun cs b => hsel j oj cs b hoj) hQ hy h1
      have hfree' : ∀ k ok, ops[k]? = some ok → k ≠ i → (l.setIfInBounds j true).getD k true = false → (∀ e ∈ ok.after, Region.binds md e = true → e.on ≠ i) → oi.apart ops ok = true := fun k ok hk hki hun hn => by
        refine hfree k ok hk hki ?_ hn
        by_cases hjk : j = k
        · subst hjk; exact hjun
        · rwa [getD_set_ne true hjk] at hun
      refine wpOp_mono (fun a' w' h3 => ⟨fun _ => h3.2.1 hfm, ih _ a' w' hfree' (ready_mono hr (Ne.symm e)) (by rw [getD_set_ne true hjm]; exact hlm) h3.1 (h3.2.1 hfm) ?_⟩) h2
      rw [Array.setIfInBounds_comm _ _ e]
      exact h3.2.2

/-- Number m waits for number i. -/
def waitsB (md : Region.Mode) (ops : Array Oper) (m i : Nat) : Bool := match ops[m]? with
  | some o => o.after.any fun e => Region.binds md e && (e.on == i)
  | none => false

/-- Number i is taken first. -/
theorem AnyM.take {i : Nat} {oi : Oper} {v : Value} {n : Nat} {l : Array Bool} {a : Act} {w : World} (hi : ops[i]? = some oi) (hs : Region.noSelect ops = true) (hf : Region.free md ops l i = true)
    (hr : (Region.ready md ops l).contains i = true) (hw : (waitsB md ops m i && !(i == m) && !(l.getD m true)) = true) (hQ : ∀ c a w, Q (.panic c) (a.put oi.dst v) w → Q (.panic c) a w) (hy : YieldsIf P ops S oi v a) (hS : S w)
    (h : AnyM P md ops Q S m n (l.setIfInBounds i true) (a.put oi.dst v) w) : AnyM P md ops Q S m (n + 1) l a w := by
  simp only [Bool.and_eq_true, Bool.not_eq_true'] at hw
  obtain ⟨⟨h1, h2⟩, h3⟩ := hw
  unfold waitsB at h1
  cases hm : ops[m]? with
  | none => rw [hm] at h1; cases h1
  | some om =>
    rw [hm] at h1
    simp only [Array.any_eq_true, Bool.and_eq_true, beq_iff_eq] at h1
    obtain ⟨k, hk, hb, ho⟩ := h1
    exact AnyM.first hi hm ⟨_, Array.getElem_mem hk, hb, ho⟩ (Region.noSelect_spec hs) hQ (by simpa using h2) n l a w (Region.free_spec hi hf) (by simpa using hr) h3 hy hS h

theorem AnyM.firstAny {i : Nat} {oi : Oper} {v : Value} (hi : ops[i]? = some oi) (hsel : ∀ (j : Nat) (o : Oper) cs b, ops[j]? = some o → o.op ≠ .select cs b)
    (hQ : ∀ c a w, Q (.panic c) (a.put oi.dst v) w → Q (.panic c) a w) (him : i ≠ m) :
    ∀ (n : Nat) (l : Array Bool) (a : Act) (w : World),
      (∀ j oj, ops[j]? = some oj → j ≠ i → l.getD j true = false → (∀ e ∈ oj.after, Region.binds md e = true → e.on ≠ i) → oi.apart ops oj = true) →
      i ∈ Region.ready md ops l → YieldsIf P ops (fun _ => True) oi v a → (l.getD m true = false → S w) →
      AnyM P md ops Q S m n (l.setIfInBounds i true) (a.put oi.dst v) w → AnyM P md ops Q S m (n + 1) l a w := by
  intro n
  induction n with
  | zero =>
    intro l a w _ hr hy hS H
    refine ⟨fun h => (by rw [h] at hr; cases hr), fun j hj => ?_⟩
    by_cases e : j = i
    · subst e; exact hy.wpOp hi trivial ⟨fun h => hS (Bool.or_eq_false_iff.1 h).2, H⟩
    · have k := ready_mono hj e
      rw [H.1] at k
      cases k
  | succ n ih =>
    intro l a w hfree hr hy hS H
    refine ⟨fun h => (by rw [h] at hr; cases hr), fun j hj => ?_⟩
    by_cases e : j = i
    · subst e; exact hy.wpOp hi trivial ⟨fun h => hS (Bool.or_eq_false_iff.1 h).2, H⟩
    · obtain ⟨hjun, oj, hoj, _⟩ := mem_ready.1 hj
      have hno := not_waits hr hj hoj
      have h1 := H.2 j (ready_mono hj e)
      have h2 := wpOp_putIf hoj (hfree j oj hoj e hjun hno) (fun cs b => hsel i oi cs b hi) (fun cs b => hsel j oj cs b hoj) hQ hy h1
      have hfree' : ∀ k ok, ops[k]? = some ok → k ≠ i → (l.setIfInBounds j true).getD k true = false → (∀ e ∈ ok.after, Region.binds md e = true → e.on ≠ i) → oi.apart ops ok = true := fun k ok hk hki hun hn => by
        refine hfree k ok hk hki ?_ hn
        by_cases hjk : j = k
        · subst hjk; exact hjun
        · rwa [getD_set_ne true hjk] at hun
      refine wpOp_mono (fun a' w' h3 => ⟨fun hf => h3.2.1 (by rw [getD_set_ne true him]; exact hf), ih _ a' w' hfree' (ready_mono hr (Ne.symm e)) h3.1 (fun hf => ?_) ?_⟩) h2
      · refine h3.2.1 ?_
        by_cases hjm : j = m
        · subst hjm
          exfalso
          have hlt : j < l.size := by
            rcases Nat.lt_or_ge j l.size with h | h
            · exact h
            · simp [Array.getD, Nat.not_lt.2 h] at hjun
          simp [Array.getD, hlt] at hf
        · rw [getD_set_ne true hjm] at hf
          rw [getD_set_ne true him, hf]
          simp [hjm]
      · rw [Array.setIfInBounds_comm _ _ e]
        exact h3.2.2

/-- Number i, which looks at no memory, is taken first. -/
theorem AnyM.takeAny {i : Nat} {oi : Oper} {v : Value} {n : Nat} {l : Array Bool} {a : Act} {w : World} (hi : ops[i]? = some oi) (hs : Region.noSelect ops = true) (hf : Region.free md ops l i = true)
    (hr : (Region.ready md ops l).contains i = true) (hw : (i == m) = false) (hQ : ∀ c a w, Q (.panic c) (a.put oi.dst v) w → Q (.panic c) a w) (hy : YieldsIf P ops (fun _ => True) oi v a) (hS : l.getD m true = false → S w)
    (h : AnyM P md ops Q S m n (l.setIfInBounds i true) (a.put oi.dst v) w) : AnyM P md ops Q S m (n + 1) l a w :=
  AnyM.firstAny hi (Region.noSelect_spec hs) hQ (by simpa using hw) n l a w (Region.free_spec hi hf) (by simpa using hr) hy hS h

/-- The beginning. -/
theorem wp_region_M {id : Nat} {a : Act} {w : World} (S : World → Prop) (m : Nat) (hm : P.follows .mixedOrders = true) (h : AnyM P .any ops Q S m ops.size (Array.replicate ops.size false) a w.drew) : (Code.region id ops true).wp P Q a w :=
  wp_region_any hm h.any

/-- Each of the operations rs comes up next. -/
def NextM (P : Program) (md : Region.Mode) (ops : Array Oper) (Q : Exit → Act → World → Prop) (S : World → Prop) (m n : Nat) (l : Array Bool) (a : Act) (w : World) (rs : List Nat) : Prop :=
  ∀ i ∈ rs, wpOp P ops Q i (fun a' w' => ((i == m || l.getD m true) = false → S w') ∧ AnyM P md ops Q S m n (l.setIfInBounds i true) a' w') a w
theorem NextM.nil {n : Nat} {l : Array Bool} {a : Act} {w : World} : NextM P md ops Q S m n l a w [] := fun _ h => by cases h
theorem NextM.cons {n : Nat} {l : Array Bool} {a : Act} {w : World} {i : Nat} {o : Oper} {rs : List Nat} (ho : ops[i]? = some o)
    (h : ∀ K : Act → World → Prop, Shut (∀ a w, ((i == m || l.getD m true) = false → S w) → AnyM P md ops Q S m n (l.setIfInBounds i true) a w → K a w) → if Region.wanted o (yielded ops a.tmps) = true then Oper.wp P o a w K Q else K (a.put o.dst undef) w)
    (hs : NextM P md ops Q S m n l a w rs) : NextM P md ops Q S m n l a w (i :: rs) := fun j hj => by
  rcases List.mem_cons.1 hj with rfl | hj
  · exact wpOp_step ho fun K hK => h K fun a w hS hW => hK a w ⟨hS, hW⟩
  · exact hs j hj
theorem AnyM.next {n : Nat} {l : Array Bool} {a : Act} {w : World} (rs : List Nat) (hr : Region.ready md ops l = rs) (hne : rs ≠ []) (h : NextM P md ops Q S m n l a w rs) : AnyM P md ops Q S m (n + 1) l a w :=
  ⟨fun h0 => absurd (hr ▸ h0) hne, hr ▸ h⟩
theorem AnyM.done {l : Array Bool} {a : Act} {w : World} (hr : Region.ready md ops l = []) (h : Q .normal a w) : ∀ n, AnyM P md ops Q S m n l a w
  | 0 => ⟨hr, h⟩
  | _ + 1 => ⟨fun _ => h, by rw [hr]; simp⟩
end
end Go.Proofs.Ytkcjiejdjdcbeaa

/- A loop over a function whose round makes variables of its own: what the round finds is told from the state ahead of the loop. A plain law over any program; no condition. -/
namespace Go.Proofs.Ytkcjiejdjdcbeaa
open Go.RowKit

/-- THE STATEMENT 'for .. := range g { .. }', its body never leaving early, in a function that runs in no round; Z tells what a round begins with, by the state ahead of the loop. -/
theorem range_law3 {α : Type} {P : Program} {n : Nat} {g : Operand} {ps : Array Tmp} {assign body : Code} {Q : Exit → Act → World → Prop} {a : Act} {w : World} (Z : Act → α → Act → World → Prop)
    {gf : Nat} {lb : Array Value} (hg : a.eval g = .func (.func gf) #[] lb) (eg : ∀ args w, (callFunc gf args).run P w = .ok (.enter gf args) w)
    {V : α → Array Value → World → Prop} {xs : List α} {S : Nat → Prop} (hseq : Iter P (n - 1) gf lb V xs S w) (hS : ∀ k, S k → k < w.heap.size)
    (hps : ∀ x args W, V x args W → args.size = ps.size) 
    (I : List α → World → Prop) (hI : ∀ pre, Stable (I pre)) (hI' : ∀ pre, Deaf w.heap.size (I pre)) (h0 : I [] w) (hZ : ∀ x a₁, Deaf w.heap.size (Z a x a₁))
    (hassign : ∀ (l : Nat) (x : α) (args : Array Value) (W : World) (K : Act → World → Prop), V x args W → w.heap.size ≤ W.heap.size → (∀ a₁ W', Below W.heap.size W W' → Z a x a₁ W' → K a₁ W') →
      assign.wpIn (Fence.wide.inRound l) (n - 1 - 1) P (Exit.then K (fun _ _ _ => False)) { tmps := (ps.zip args).foldl (fun t (p, v) => t.setIfInBounds p v) a.tmps, defers := [] } W)
    (hbody : ∀ (l : Nat) (pre : List α) (x : α) (rest : List α) (a₁ : Act) (W : World), xs = pre ++ x :: rest → I pre W → Z a x a₁ W → w.heap.size ≤ W.heap.size →
      body.wpIn (Fence.wide.inRound l) (n - 1 - 1) P (endsRound S I (pre ++ [x]) W) a₁ W)
    (hdone : ∀ (D : Nat) (W : World), w.heap.size ≤ D → I xs W → W.heap[D]? = some (.deferred (some [])) → Q .normal { a with defers := { target := .collected D, args := #[] } :: a.defers } W) :
    (Code.rangeFunc g ps assign body).wpIn Fence.wide n P Q a w :=
  range_law2 hg eg hseq hS hps I hI hI' h0 (Z a) hZ hassign hbody hdone

/-- What was read goes on being read, over blocks that are laid and then over a loop that keeps the blocks of S. -/
theorem Rd.keepV {S : Nat → Prop} {V W W' : World} {A : Option Addr} {xs : List Value} (h : Rd V A xs) (hb : Below V.heap.size V W) (hS : ∀ j, j < V.heap.size → S j) (hk : Keep S W W') : Rd W' A xs := by
  intro hx
  obtain ⟨b, off, rfl, hlt, hc⟩ := h hx
  exact ⟨b, off, rfl, Nat.lt_of_lt_of_le hlt (Nat.le_trans hb.size hk.size), fun j u hu => (hk.cell (p := ⟨b, off + j, none⟩) (hS b hlt)).trans ((hb.cell (p := ⟨b, off + j, none⟩) hlt).trans (hc j u hu))⟩
theorem Rd.inS {S : Nat → Prop} {V : World} {A : Option Addr} {xs : List Value} (h : Rd V A xs) (hx : xs ≠ []) (hS : ∀ j, j < V.heap.size → S j) : ∀ b off, A = some ⟨b, off, none⟩ → S b := fun b off e => by
  obtain ⟨b', off', e', hlt, _⟩ := h hx
  rw [e] at e'
  injection e' with e'
  injection e' with e' _
  subst e'
  exact hS _ hlt
/-- All blocks that were there are kept, but for one. -/
def But (W : World) (q : Nat) : Nat → Prop := fun k => k < W.heap.size ∧ k ≠ q
theorem kpq {W w' : World} {q : Nat} (h : Keep (But W q) W w') : (∀ b o, b < W.heap.size → b ≠ q → w'.cell? ⟨b, o, none⟩ = W.cell? ⟨b, o, none⟩) ∧ Keep (But W q) W w' := ⟨fun b o hb hq => h.cell (p := ⟨b, o, none⟩) ⟨hb, hq⟩, h⟩
theorem But.below {W w' : World} {q : Nat} (h : Below W.heap.size W w') : Keep (But W q) W w' := Keep.of_below h fun _ hk => hk.1
theorem But.put {W w' : World} {q i : Nat} (h : Keep (But W q) W w') (u : Value) : Keep (But W q) W (w'.setCell ⟨q, i, none⟩ u) := h.trans (Keep.setCell _ _ _ fun hk => hk.2 rfl)
end Go.Proofs.Ytkcjiejdjdcbeaa

