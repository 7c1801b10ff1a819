/- Contracts: the stable sort of at most twenty numbers; the order of a queue. -/
import Derived.Test.YtohdjhdkmdhhcaaE69
set_option linter.unusedSimpArgs false
set_option linter.unusedVariables false
set_option linter.unusedSimpArgs false
set_option linter.unusedVariables false
namespace Go.Proofs.Ytohdjhdkmdhhcaa
open Go.RowKit Go.Shelf
set_option maxRecDepth 100000

/-- Indexes as numbers. -/
def encF (n : Nat) (x : Fin (n + 1)) : Value := .int .i64 (x.val : Int)
theorem insert0_c (A : Option Addr) (c : Nat) (f : FuncId) (cap : Array Value) (w : World) :
    Calls Try.prog 97 #[.slice A 0 c, .int .i64 0, .int .i64 0, .func (.func f) #[] cap] w fun r w' => r = .returned (.tuple #[]) ∧ w = w' := by
  go_enter Try.func97, Try.ntmps97
  go_wp2
  go_loop [8] (fun i => i = .int .i64 1) (fun _ => 0)
  case atStart => rfl
  case round =>
    obtain rfl := hrel
    go_wp2
    go_end0
    exact ⟨rfl, rfl⟩
theorem stable0_c (A : Option Addr) (c : Nat) (f : FuncId) (cap : Array Value) (w : World) :
    Calls Try.prog 65 #[.slice A 0 c, .func (.func f) #[] cap] w fun r w' => r = .returned (.tuple #[]) ∧ w = w' := by
  have HI := hide (fun W => insert0_c A c f cap W)
  have HS : Hid (∀ W, Calls Try.prog 84 #[.slice A 0 c, .int .i64 0, .func (.func f) #[] cap] W fun r w' => r = .returned (.tuple #[]) ∧ W = w') := by
    intro W
    go_enter Try.func84, Try.ntmps84
    go_wp2
    go_loop [7, 8] (fun a b => a = .int .i64 0 ∧ b = .int .i64 20) (fun _ _ => 0)
    case atStart => exact ⟨rfl, rfl⟩
    case round =>
      obtain ⟨rfl, rfl⟩ := hrel
      go_wp2_with (first | (go_at_call 97; refine (HI.out _).mono ?_; rintro e_ w_ ⟨rfl, rfl⟩))
      go_loop [6] (fun a => a = .int .i64 20) (fun _ => 0)
      case atStart => rfl
      case round =>
        obtain rfl := hrel
        go_wp2
        go_end0
        exact ⟨rfl, rfl⟩
  go_enter Try.func65, Try.ntmps65
  go_wp2_with (first | (go_at_call 84; refine (HS.out _).mono ?_; rintro e_ w_ ⟨rfl, rfl⟩))
  go_end0
  exact ⟨rfl, rfl⟩
open Go.Sort
theorem rd_sw {α : Type} [Inhabited α] {enc : α → Value} {w0 : World} {blk off m : Nat} {dk : Array α} {os : Array Obj} {A : Option Addr} {xs : List Value} (h : Rd w0 A xs) (hA : ∀ b o, A = some ⟨b, o, none⟩ → b ≠ blk) : Rd (sortWorld enc w0 blk off m dk os) A xs := by
  intro hx
  obtain ⟨b, o, rfl, hlt, hc⟩ := h hx
  refine ⟨b, o, rfl, ?_, fun j u hu => ?_⟩
  · unfold sortWorld
    rw [size_grow, size_putRow]
    show b < w0.heap.size + _
    omega
  · exact (sw_cell (p := ⟨b, o + j, none⟩) (hA b o rfl) hlt).trans (hc j u hu)
theorem ins_none {α : Type} [Inhabited α] (lt : α → α → Bool) (d : Array α) (a : Nat) : Sort.insertionSort lt d a a = d := by
  unfold Sort.insertionSort
  rw [insOuter, if_neg (by omega)]
theorem cmpLays_q (q : List IT) (n : Nat) (hq : q.length = n + 1) (hn : n + 1 ≤ 20) (Bq blk : Nat) (A : Option Addr) (c : Nat) (w : World) (hX : w.cell? ⟨Bq, 0, none⟩ = some (.slice A q.length c)) (hr : Rd w A (its q)) (hBq : Bq ≠ blk) (hA : ∀ b o, A = some ⟨b, o, none⟩ → b ≠ blk) :
    CmpLays1 Try.prog 66 #[.pointer (some ⟨Bq, 0, none⟩)] (encF n) (fun x y => cfI q x.val y.val) blk 0 (n + 1) w := by
  intro m os dk hs x y
  have hz := World.block_lt_of_cell? _ _ hX
  exact orderOf1_c q x.val y.val A c Bq _ ((sw_cell (p := ⟨Bq, 0, none⟩) hBq hz).trans hX) (rd_sw hr hA) (by omega) (by omega) (by omega)
theorem ltOf_wk (q : List IT) (n : Nat) : ltOf (fun (x y : Fin (n + 1)) => cfI q x.val y.val) = wkF q := by
  funext x y
  exact cfI_wk q x.val y.val
theorem ins_c (q : List IT) (n : Nat) (hq : q.length = n + 1) (hn : n + 1 ≤ 20) (Bq blk cap : Nat) (A : Option Addr) (c : Nat) (w : World) (hX : w.cell? ⟨Bq, 0, none⟩ = some (.slice A q.length c)) (hr : Rd w A (its q)) (hBq : Bq ≠ blk) (hA : ∀ b o, A = some ⟨b, o, none⟩ → b ≠ blk)
    (hH : Holds (encF n) w blk 0 (idxR n)) (hblk : blk < w.heap.size) (W : World) (d : Array (Fin (n + 1))) (hd : d.size = n + 1) (S : SW (encF n) w blk 0 d W) (a b : Nat) (hab : a ≤ b) (hb : b ≤ n + 1) :
    Calls Try.prog 97 #[.slice (some ⟨blk, 0, none⟩) (n + 1) cap, .int .i64 (a : Int), .int .i64 (b : Int), .func (.func 66) #[] #[.pointer (some ⟨Bq, 0, none⟩)]] W fun e w' => e = .returned (.tuple #[]) ∧ SW (encF n) w blk 0 (Sort.insertionSort (wkF q) d a b) w' := by
  have h := Any.insertionSortCmpFunc_s insLays (encF n) (fun x y => cfI q x.val y.val) 66 #[.pointer (some ⟨Bq, 0, none⟩)] blk 0 cap a b (idxR n) d w W Try.call66 (by rw [idxR_size]; exact cmpLays_q q n hq hn Bq blk A c w hX hr hBq hA) ⟨fun _ => rfl, hH, hblk⟩ (by rw [idxR_size, hd]) S hab (by rw [hd]; exact hb) (by rw [hd]; omega)
  rw [ltOf_wk, hd] at h
  exact h
theorem stable_c (q : List IT) (n : Nat) (hq : q.length = n + 1) (hn : n + 1 ≤ 20) (Bq blk cap : Nat) (A : Option Addr) (c : Nat) (w : World) (hX : w.cell? ⟨Bq, 0, none⟩ = some (.slice A q.length c)) (hr : Rd w A (its q)) (hBq : Bq ≠ blk) (hA : ∀ b o, A = some ⟨b, o, none⟩ → b ≠ blk)
    (hH : Holds (encF n) w blk 0 (idxR n)) (hblk : blk < w.heap.size) :
    Calls Try.prog 65 #[.slice (some ⟨blk, 0, none⟩) (n + 1) cap, .func (.func 66) #[] #[.pointer (some ⟨Bq, 0, none⟩)]] w fun e w' => e = .returned (.tuple #[]) ∧ SW (encF n) w blk 0 (Sort.insertionSort (wkF q) (idxR n) 0 (n + 1)) w' := by
  have HI := hide (fun W d hd S a b h1 h2 => ins_c q n hq hn Bq blk cap A c w hX hr hBq hA hH hblk W d hd S a b h1 h2)
  have hsz : (Sort.insertionSort (wkF q) (idxR n) 0 (n + 1)).size = n + 1 := by
    have := congrArg List.length (ins_ord q hq)
    rw [List.length_map, ordL_len, hq] at this
    simpa using this
  have hS0 : SW (encF n) w blk 0 (idxR n) w := SW.start hH
  clear hX hr hBq hA hH hblk
  by_cases h20 : n + 1 = 20
  · have H1 := hide (fun W S => HI.out W (idxR n) (idxR_size n) S 0 (n + 1) (by omega) (Nat.le_refl _))
    have H2 := hide (fun W S => HI.out W _ hsz S (n + 1) (n + 1) (Nat.le_refl _) (Nat.le_refl _))
    rw [ins_none] at H2
    generalize Sort.insertionSort (wkF q) (idxR n) 0 (n + 1) = d at H1 H2 ⊢
    clear hsz HI
    obtain rfl : n = 19 := by omega
    have HS : Hid (Calls Try.prog 84 #[.slice (some ⟨blk, 0, none⟩) 20 cap, .int .i64 20, .func (.func 66) #[] #[.pointer (some ⟨Bq, 0, none⟩)]] w fun r w' => r = .returned (.tuple #[]) ∧ SW (encF 19) w blk 0 d w') := by
      show Calls _ _ _ _ _
      go_enter Try.func84, Try.ntmps84
      go_wp2
      go_loopw [7, 8] (fun a b wr => (a = .int .i64 0 ∧ b = .int .i64 20 ∧ SW (encF 19) w blk 0 (idxR 19) wr) ∨ (a = .int .i64 20 ∧ b = .int .i64 40 ∧ SW (encF 19) w blk 0 d wr)) (fun _ b _ => 40 - (intOf b).toNat)
      case atStart => exact .inl ⟨rfl, rfl, hS0⟩
      case round =>
        obtain ⟨rfl, rfl, S1⟩ | ⟨rfl, rfl, S1⟩ := hrel
        · go_wp2_with (first | (go_at_call 97; refine (H1.out _ S1).mono ?_; rintro e_ w2 ⟨rfl, S2⟩))
          go_roundw
          case rel => exact .inr ⟨rfl, rfl, S2⟩
          case measure => simp [intOf]
        · go_wp2_with (first | (go_at_call 97; refine (H2.out _ S1).mono ?_; rintro e_ w2 ⟨rfl, S2⟩))
          go_loopw [6] (fun a wr => a = .int .i64 20 ∧ SW (encF 19) w blk 0 d wr) (fun _ _ => 0)
          case atStart => exact ⟨rfl, S2⟩
          case round =>
            obtain ⟨rfl, S3⟩ := hrel
            go_wp2
            go_end0
            exact ⟨rfl, S3⟩
    go_enter Try.func65, Try.ntmps65
    go_wp2_with (first | (go_at_call 84; refine HS.out.mono ?_; rintro e_ w2 ⟨rfl, S2⟩))
    go_end0
    exact ⟨rfl, S2⟩
  · suffices hh : ∀ m, m = n + 1 → Calls Try.prog 65 #[.slice (some ⟨blk, 0, none⟩) m cap, .func (.func 66) #[] #[.pointer (some ⟨Bq, 0, none⟩)]] w fun e w' => e = .returned (.tuple #[]) ∧ SW (encF n) w blk 0 (Sort.insertionSort (wkF q) (idxR n) 0 (n + 1)) w' from hh _ rfl
    intro m hm
    have H1 : Hid (∀ W, SW (encF n) w blk 0 (idxR n) W → Calls Try.prog 97 #[.slice (some ⟨blk, 0, none⟩) m cap, .int .i64 ((0 : Nat) : Int), .int .i64 (m : Int), .func (.func 66) #[] #[.pointer (some ⟨Bq, 0, none⟩)]] W fun e w' => e = .returned (.tuple #[]) ∧ SW (encF n) w blk 0 (Sort.insertionSort (wkF q) (idxR n) 0 (n + 1)) w') := by
      rw [hm]
      exact fun W S => HI.out W (idxR n) (idxR_size n) S 0 (n + 1) (by omega) (Nat.le_refl _)
    generalize Sort.insertionSort (wkF q) (idxR n) 0 (n + 1) = d at H1 ⊢
    clear hsz HI
    have i1 : ¬ (20 : Int) ≤ (m : Int) := by omega
    have i2 : ¬ (20 : Int) < (m : Int) := by omega
    clear hq hn h20 hm
    have HS : Hid (Calls Try.prog 84 #[.slice (some ⟨blk, 0, none⟩) m cap, .int .i64 (m : Int), .func (.func 66) #[] #[.pointer (some ⟨Bq, 0, none⟩)]] w fun r w' => r = .returned (.tuple #[]) ∧ SW (encF n) w blk 0 d w') := by
      show Calls _ _ _ _ _
      go_enter Try.func84, Try.ntmps84
      go_wp2
      go_loopw [7, 8] (fun a b wr => a = .int .i64 0 ∧ b = .int .i64 20 ∧ SW (encF n) w blk 0 (idxR n) wr) (fun _ b _ => 0)
      case atStart => exact ⟨rfl, rfl, hS0⟩
      case round =>
        obtain ⟨rfl, rfl, S1⟩ := hrel
        go_wp2_with (first | (go_at_call 97; refine (H1.out _ S1).mono ?_; rintro e_ w2 ⟨rfl, S2⟩))
        go_loopw [6] (fun a wr => a = .int .i64 20 ∧ SW (encF n) w blk 0 d wr) (fun _ _ => 0)
        case atStart => exact ⟨rfl, S2⟩
        case round =>
          obtain ⟨rfl, S3⟩ := hrel
          go_wp2
          go_end0
          exact ⟨rfl, S3⟩
    go_enter Try.func65, Try.ntmps65
    go_wp2_with (first | (go_at_call 84; refine HS.out.mono ?_; rintro e_ w2 ⟨rfl, S2⟩))
    go_end0
    exact ⟨rfl, S2⟩
end Go.Proofs.Ytohdjhdkmdhhcaa
