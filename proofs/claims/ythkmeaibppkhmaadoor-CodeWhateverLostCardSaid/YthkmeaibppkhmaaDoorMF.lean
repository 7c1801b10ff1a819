/- A group of texts (tools/groups.txt): W23 W24 W25 W26 MathA R1 W28 R2 R3. No condition but those that each says. -/
import Derived.Test.YthkmeaibppkhmaaDoorME
import Derived.Test.YthkmeaibppkhmaaDoorMB
import Derived.Test.YthkmeaibppkhmaaDoorMC
import Derived.Deep.DeepCutAuto
import Derived.Maps.AppendAt
import Derived.Deep.AppendLies
/- Contracts: a correlation that is asked for. -/
namespace Go.Proofs.YthkmeaibppkhmaaDoor
open Go.RowKit
set_option maxRecDepth 100000

/-- The error of a correlation. -/
def corrE (a b : List Int) (lag : Int) : Int := firstE [codeE a, codeE b, errIf ((a.length : Int) != (b.length : Int)) 10, errIf (outB lag (1 - (a.length : Int)) ((a.length : Int) - 1)) 2]

theorem firstE_zero : ∀ {l : List Int}, firstE l = 0 → ∀ e ∈ l, e = 0
  | [], _, e, h => absurd h (by simp)
  | e :: l, h, x, hx => by
    unfold firstE at h
    by_cases he : e = 0
    · rw [if_pos he] at h
      rcases List.mem_cons.1 hx with rfl | hx
      · exact he
      · exact firstE_zero h x hx
    · rw [if_neg he] at h; exact absurd h he
theorem errIf_zero {b : Bool} {e : Int} (he : e ≠ 0) (h : errIf b e = 0) : b = false := by
  cases b
  · rfl
  · exact absurd h he
theorem corrE_zero {a b : List Int} {lag : Int} (h : corrE a b lag = 0) : codeE a = 0 ∧ codeE b = 0 ∧ a.length = b.length ∧ 1 - (a.length : Int) ≤ lag ∧ lag ≤ (a.length : Int) - 1 := by
  have h0 := firstE_zero h
  have h1 := errIf_zero (by decide) (h0 (errIf ((a.length : Int) != (b.length : Int)) 10) (by simp))
  have h2 := outB_false.1 (errIf_zero (by decide) (h0 (errIf (outB lag (1 - (a.length : Int)) ((a.length : Int) - 1)) 2) (by simp)))
  refine ⟨h0 _ (by simp), h0 (codeE b) (by simp), ?_, h2.1, h2.2⟩
  have : (a.length : Int) = (b.length : Int) := by simpa using h1
  omega

theorem correlationAt_c (a b : List Int) (A B : Option Addr) (c d : Nat) (lag : Int) (w : World) (hr : Rd w A (ints a)) (hs : Rd w B (ints b)) (hl : a.length ≤ 1000) (hl2 : b.length ≤ 1000) :
    Calls Tryd.prog 17 #[.slice A a.length c, .slice B b.length d, .int .i64 lag] w fun r w' =>
      r = .returned (.tuple #[.int .i64 (if corrE a b lag = 0 then corr a b lag else 0), .int .i64 (corrE a b lag)]) ∧ Below w.heap.size w w' := by
  have HF : Hid (firstE [codeE a, codeE b, errIf ((a.length : Int) != (b.length : Int)) 10, errIf (outB lag (1 - (a.length : Int)) ((a.length : Int) - 1)) 2] = corrE a b lag) := rfl
  by_cases h0 : corrE a b lag = 0
  · obtain ⟨q1, q2, q3, q4, q5⟩ := corrE_zero h0
    have HS1 := hide (small_of_code q1)
    have HS2 := hide (small_of_code q2)
    have e1 : (corrE a b lag != 0) = false := by simpa using h0
    have H0 := hide h0
    have H3 := hide q3
    have HL : Hid (-(a.length : Int) ≤ lag ∧ lag ≤ a.length) := ⟨by omega, by omega⟩
    rw [if_pos h0]
    clear h0 q1 q2 q3 q4 q5
    go_enter Tryd.func17, Tryd.ntmps17
    go_upto_region 2 with (first
      | (go_at_call 22; have _g := hb1; refine (checkCode_c b B d _ ((hs.bel hb1)) hl2).mono ?_; rintro e w2 ⟨rfl, hb2⟩)
      | (go_at_call 22; refine (checkCode_c a A c _ hr hl).mono ?_; rintro e w1 ⟨rfl, hb1⟩)
      | (go_at_call 93; refine (errorIf_c _ _ _).mono ?_; rintro e_ w_ ⟨rfl, rfl⟩) | (go_at_call 94; refine (outside_c _ _ _ _).mono ?_; rintro e_ w_ ⟨rfl, rfl⟩)
      | (go_at_call 92; refine (firstError_4 _ _ _ _ _).mono ?_; rintro e_ w_ ⟨rfl, rfl⟩))
    rw [HF.out]
    go_wp2_with (first | (go_at_call 95; refine (corr_c a b A B c d lag _ ?_ ?_ HS1.out HS2.out hl H3.out HL.out.1 HL.out.2).mono ?_; exact ((hr.bel hb1).bel hb2).bel ((Below.refl _ _).alloc (Nat.le_refl _) _); exact ((hs.bel hb1).bel hb2).bel ((Below.refl _ _).alloc (Nat.le_refl _) _); rintro e w3 ⟨rfl, n3, rfl⟩))
    go_ret2
    exact ⟨by rw [H0.out]; rfl, below_drewN ((tr hb1 hb2 hb1.size).alloc (by have := hb1.size; have := hb2.size; omega) _) _⟩
  · have e1 : (corrE a b lag != 0) = true := by simpa using h0
    rw [if_neg h0]
    clear h0
    go_enter Tryd.func17, Tryd.ntmps17
    go_upto_region 2 with (first
      | (go_at_call 22; have _g := hb1; refine (checkCode_c b B d _ ((hs.bel hb1)) hl2).mono ?_; rintro e w2 ⟨rfl, hb2⟩)
      | (go_at_call 22; refine (checkCode_c a A c _ hr hl).mono ?_; rintro e w1 ⟨rfl, hb1⟩)
      | (go_at_call 93; refine (errorIf_c _ _ _).mono ?_; rintro e_ w_ ⟨rfl, rfl⟩) | (go_at_call 94; refine (outside_c _ _ _ _).mono ?_; rintro e_ w_ ⟨rfl, rfl⟩)
      | (go_at_call 92; refine (firstError_4 _ _ _ _ _).mono ?_; rintro e_ w_ ⟨rfl, rfl⟩))
    rw [HF.out]
    go_wp2
    go_ret2
    exact ⟨rfl, (tr hb1 hb2 hb1.size).alloc (by have := hb1.size; have := hb2.size; omega) _⟩
end Go.Proofs.YthkmeaibppkhmaaDoor

/- Contracts: side lobes. -/
namespace Go.Proofs.YthkmeaibppkhmaaDoor
open Go.RowKit
set_option maxRecDepth 100000

/-- The greatest size of the correlations at the lags from 1 to k. -/
def sideTo (c : List Int) : Nat → Int
  | 0 => 0
  | k + 1 => if (if sideTo c k < corrN c c (k + 1) then corrN c c (k + 1) else sideTo c k) < -(corrN c c (k + 1)) then -(corrN c c (k + 1)) else if sideTo c k < corrN c c (k + 1) then corrN c c (k + 1) else sideTo c k

theorem sideTo_succ (c : List Int) (k : Nat) (hk : 1 ≤ k) : sideTo c k = if (if sideTo c (k - 1) < corrN c c k then corrN c c k else sideTo c (k - 1)) < -(corrN c c k) then -(corrN c c k) else if sideTo c (k - 1) < corrN c c k then corrN c c k else sideTo c (k - 1) := by
  obtain ⟨j, rfl⟩ : ∃ j, k = j + 1 := ⟨k - 1, by omega⟩
  rfl

theorem sidelobe_c (l : List Int) (A : Option Addr) (c : Nat) (w : World) (hr : Rd w A (ints l)) (hs : Small l) (hl : l.length ≤ 1000) (h1 : 1 ≤ l.length) :
    Calls Tryd.prog 96 #[.slice A l.length c] w fun r w' => r = .returned (.int .i64 (sideTo l (l.length - 1))) ∧ Below w.heap.size w w' := by
  have HS := hide hs
  clear hs
  go_enter Tryd.func96, Tryd.ntmps96
  go_wp2
  go_loopw [3, 4, 5] (fun m i _ wr => ∃ k : Nat, 1 ≤ k ∧ k ≤ l.length ∧ i = .int .i64 k ∧ m = .int .i64 (sideTo l (k - 1)) ∧ Below w.heap.size w wr) (fun _ i _ _ => l.length - (intOf i).toNat)
  case atStart => exact ⟨1, Nat.le_refl _, h1, rfl, rfl, Below.refl _ _⟩
  case round =>
    obtain ⟨k, hk1, hk, rfl, rfl, hbr⟩ := hrel
    by_cases hlt : k < l.length
    · have hbd := corrN_bd HS.out HS.out (lag := k)
      have HC := hide (corr_nat l l A A c c k wr (hr.bel hbr) (hr.bel hbr) HS.out HS.out hl rfl (Nat.le_of_lt hlt))
      go_wp2_with (go_at_call 95; refine HC.out.mono ?_; rintro e w3 ⟨rfl, n3, rfl⟩)
      go_roundw
      case rel =>
        refine ⟨k + 1, by omega, by omega, by go_num, ?_, below_drewN hbr _⟩
        rw [Nat.add_sub_cancel, sideTo_succ l k hk1]
      case measure => simp [intOf]; omega
    · obtain rfl : k = l.length := by omega
      go_wp2
      go_ret
      exact ⟨rfl, hbr⟩

theorem sidelobeOf_c (l : List Int) (A : Option Addr) (c : Nat) (w : World) (hr : Rd w A (ints l)) (hl : l.length ≤ 1000) :
    Calls Tryd.prog 19 #[.slice A l.length c] w fun r w' => r = .returned (.tuple #[.int .i64 (if codeE l = 0 then sideTo l (l.length - 1) else 0), .int .i64 (codeE l)]) ∧ Below w.heap.size w w' := by
  by_cases h0 : codeE l = 0
  · have HS := hide (small_of_code h0)
    have hl1 : 1 ≤ l.length := (codeE_zero h0).1
    have e1 : (codeE l != 0) = false := by simpa using h0
    have H0 := hide h0
    rw [if_pos h0]
    clear h0
    go_enter Tryd.func19, Tryd.ntmps19
    go_wp2_with (first
      | (go_at_call 22; refine (checkCode_c l A c _ hr hl).mono ?_; rintro e w1 ⟨rfl, hb1⟩)
      | (go_at_call 96; refine (sidelobe_c l A c _ (hr.bel hb1) HS.out hl hl1).mono ?_; rintro e w2 ⟨rfl, hb2⟩))
    go_ret2
    exact ⟨by rw [H0.out]; rfl, tr hb1 hb2 hb1.size⟩
  · have e1 : (codeE l != 0) = true := by simpa using h0
    rw [if_neg h0]
    clear h0
    go_enter Tryd.func19, Tryd.ntmps19
    go_wp2_with (first
      | (go_at_call 22; refine (checkCode_c l A c _ hr hl).mono ?_; rintro e w1 ⟨rfl, hb1⟩))
    go_ret2
    exact ⟨rfl, hb1⟩
end Go.Proofs.YthkmeaibppkhmaaDoor

/- Contracts: the wave of a code. -/
namespace Go.Proofs.YthkmeaibppkhmaaDoor
open Go.RowKit
set_option maxRecDepth 100000

def reL (l : List Int) : List (Int × Int) := l.map fun n => (n, 0)

theorem waveOf_c (l : List Int) (A : Option Addr) (c : Nat) (w : World) (hr : Rd w A (ints l)) (hl : l.length ≤ 1000) :
    Calls Tryd.prog 20 #[.slice A l.length c] w fun r w' =>
      ((codeE l ≠ 0 ∧ r = .returned (.tuple #[.slice none 0 0, .int .i64 (codeE l)])) ∨
        (codeE l = 0 ∧ ∃ g : Nat, r = .returned (.tuple #[.slice (some ⟨g, 0, none⟩) l.length l.length, .int .i64 0]) ∧ w.heap.size ≤ g ∧ Blk w' g 76 (gs (reL l)))) ∧ Below w.heap.size w w' := by
  obtain ⟨i0, hi, iz0, iz1, iz2⟩ := info_parts Tryd.info76
  have hm1 : ∀ W, (Instr.makeSlice 30 (.int .i64 (l.length : Int)) (.int .i64 (l.length : Int))).run Tryd.prog W = .ok (.slice (some ⟨W.heap.size, 0, none⟩) l.length l.length) (W.alloc (.cells (gs (List.replicate l.length (0, 0))).toArray 76)) := fun W => by
    have h1 := run_make_rowN (P := Tryd.prog) 30 76 i0 _ Tryd.underlying30 hi iz0 .i64 .i64 l.length l.length (Nat.le_refl _) (by rw [iz2]; omega) (by omega) W
    have h2 := madeCells_g l.length
    rw [iz1] at h1
    rw [h1]
    congr 3
    rw [← h2]
  by_cases h0 : codeE l = 0
  · have e1 : (codeE l != 0) = false := by simpa using h0
    have H0 := hide h0
    clear h0
    go_enter Tryd.func20, Tryd.ntmps20
    go_upto_region 6 with (first | (go_at_call 22; refine (checkCode_c l A c _ hr hl).mono ?_; rintro e w1 ⟨rfl, hb1⟩))
    generalize hW : w1.alloc (.cells (gs (List.replicate l.length (0, 0))).toArray 76) = W
    have hBW : Below w1.heap.size w1 W := by rw [← hW]; exact (Below.refl _ _).alloc (Nat.le_refl _) _
    have hGW : Blk W w1.heap.size 76 (gs (List.replicate l.length (0, 0))) := by rw [← hW]; exact Blk.new w1 _ _
    clear hW
    obtain ⟨g, hg⟩ : ∃ g, w1.heap.size = g := ⟨_, rfl⟩
    have hgw : w.heap.size ≤ g := by have := hb1.size; omega
    rw [hg] at hGW hBW ⊢
    go_wp2
    go_loopw [18] (fun i wr => ∃ k : Nat, k ≤ l.length ∧ i = .int .i64 k ∧ Below g w1 wr ∧ Blk wr g 76 (gs (reL (l.take k) ++ List.replicate (l.length - k) (0, 0)))) (fun i _ => l.length - (intOf i).toNat)
    case atStart => exact ⟨0, Nat.zero_le _, rfl, hBW, by simpa [reL] using hGW⟩
    case round =>
      obtain ⟨k, hk, rfl, hbr, hGr⟩ := hrel
      have hbw : Below w.heap.size w wr := tr hb1 hbr hgw
      by_cases hlt : k < l.length
      · obtain ⟨b, off, rfl, hbl, z0⟩ := (hr.bel hbw).int_at hlt
        have hLn : (reL (l.take k) ++ List.replicate (l.length - k) (0, 0)).length = l.length := by simp [reL]; omega
        have hLS : Hid ((reL (l.take k) ++ List.replicate (l.length - k) (0, 0)).set k (l[k], 0) = reL (l.take (k + 1)) ++ List.replicate (l.length - (k + 1)) (0, 0)) := by
          show _ = _
          have e : l.length - k = (l.length - (k + 1)) + 1 := by omega
          rw [List.set_append_right _ _ (by simp [reL]; omega), List.take_succ_eq_append_getElem hlt, e, List.replicate_succ]
          have e2 : k - (reL (l.take k)).length = 0 := by simp [reL]; omega
          rw [e2, List.set_cons_zero, show reL (l.take k ++ [l[k]]) = reL (l.take k) ++ [(l[k], 0)] from List.map_append, List.append_assoc]
          rfl
        generalize l[k] = n at z0 hLS
        generalize reL (l.take k) ++ List.replicate (l.length - k) (0, 0) = L at hGr hLn hLS
        obtain ⟨gk, hgk⟩ : ∃ gk, L[k]? = some gk := ⟨_, List.getElem?_eq_getElem (by omega)⟩
        obtain ⟨y0, y1⟩ := hGr.g_at hgk
        have q0 := hGr.frozen (k * 2)
        have q1 := hGr.frozen (k * 2 + 1)
        have hset := hide (hGr.setG (k := k) (g := (n, 0)) (by omega))
        have hLnH := hide hLn
        clear hLn hgk
        go_wp2
        go_roundw
        case rel => exact ⟨k + 1, by omega, by go_num, (hbr.setCell (Nat.le_refl _) _).setCell (Nat.le_refl _) _, by rw [← hLS.out]; exact hset.out⟩
        case measure => simp [intOf]; omega
      · obtain rfl : k = l.length := by omega
        go_wp2
        go_ret2
        refine ⟨.inr ⟨H0.out, g, rfl, hgw, ?_⟩, hbw⟩
        rw [Nat.sub_self, List.replicate_zero, List.append_nil, List.take_of_length_le (Nat.le_refl _)] at hGr
        exact hGr
  · have e1 : (codeE l != 0) = true := by simpa using h0
    have H0 := hide h0
    clear h0
    go_enter Tryd.func20, Tryd.ntmps20
    go_wp2_with (first | (go_at_call 22; refine (checkCode_c l A c _ hr hl).mono ?_; rintro e w1 ⟨rfl, hb1⟩))
    go_ret2
    exact ⟨.inl ⟨H0.out, rfl⟩, hb1⟩
end Go.Proofs.YthkmeaibppkhmaaDoor

/- Contracts: a chirp at a tick. -/
namespace Go.Proofs.YthkmeaibppkhmaaDoor
open Go.RowKit
set_option maxRecDepth 100000

theorem chirpAt_c (s n d t : Int) (w : World) :
    Calls Tryd.prog 44 #[.agg #[.int .i64 s, .int .i64 n, .int .i64 d], .int .i64 t] w fun r w' =>
      r = .returned (.tuple #[.int .i64 (if chirpNE s n d t 0 1000000 = 0 then freq s n d t else 0), .int .i64 (chirpNE s n d t 0 1000000)]) ∧ Below w.heap.size w w' := by
  have HF : Hid (firstE [chirpE s n d, errIf (outB t 0 1000000) 2] = chirpNE s n d t 0 1000000) := rfl
  have hb0 : Below w.heap.size w (w.alloc (.cells #[.int .i64 s, .int .i64 n, .int .i64 d] 64)) := (Below.refl _ _).alloc (Nat.le_refl _) _
  by_cases he : chirpNE s n d t 0 1000000 = 0
  · obtain ⟨g0, g1, g2⟩ := chirpNE_zero he
    obtain ⟨q1, q2, q3, q4, q5, q6⟩ := chirpE_zero g0
    have e1 : (chirpNE s n d t 0 1000000 != 0) = false := by simpa using he
    have HE := hide he
    rw [if_pos he]
    clear he g0
    go_enter Tryd.func44, Tryd.ntmps44
    go_upto_region 2 with (first
      | (go_at_call 48; refine (checkChirp_c _ _ _ _).mono ?_; rintro e w1 ⟨rfl, hb1⟩)
      | (go_at_call 93; refine (errorIf_c _ _ _).mono ?_; rintro e_ w_ ⟨rfl, rfl⟩) | (go_at_call 94; refine (outside_c _ _ _ _).mono ?_; rintro e_ w_ ⟨rfl, rfl⟩) | (go_at_call 92; refine (firstError_2 _ _ _).mono ?_; rintro e_ w_ ⟨rfl, rfl⟩))
    rw [HF.out]
    have hX : Blk (w.alloc (.cells #[.int .i64 s, .int .i64 n, .int .i64 d] 64)) w.heap.size 64 [.int .i64 s, .int .i64 n, .int .i64 d] := Blk.new w _ [_, _, _]
    have hX1 := hX.bel hb1
    obtain ⟨V, hV⟩ : ∃ V, w1.alloc (.cells #[.int .i64 (chirpE s n d), .int .i64 (errIf (outB t 0 1000000) 2)] 25) = V := ⟨_, rfl⟩
    rw [hV]
    have hb1V : Below w1.heap.size w1 V := by rw [← hV]; exact (Below.refl _ _).alloc (Nat.le_refl _) _
    have hXV := hX1.bel hb1V
    clear hV
    have c0 := hXV.cell 0
    have c1 := hXV.cell 1
    have c2 := hXV.cell 2
    simp only [List.getElem?_cons_zero, List.getElem?_cons_succ] at c0 c1 c2
    have hwV : Below w.heap.size w V := tr (tr hb0 hb1 (by simp)) hb1V (by have := hb1.size; simp at this; omega)
    go_wp2_with (go_at_call 108; refine (frequency_c s n d t _ q1 q2 q3 q4 q5 q6 g1 g2).mono ?_; rintro e w3 ⟨rfl, hb3⟩)
    go_ret2
    exact ⟨by rw [HE.out]; rfl, tr hwV hb3 hwV.size⟩
  · have e1 : (chirpNE s n d t 0 1000000 != 0) = true := by simpa using he
    rw [if_neg he]
    clear he
    go_enter Tryd.func44, Tryd.ntmps44
    go_upto_region 2 with (first
      | (go_at_call 48; refine (checkChirp_c _ _ _ _).mono ?_; rintro e w1 ⟨rfl, hb1⟩)
      | (go_at_call 93; refine (errorIf_c _ _ _).mono ?_; rintro e_ w_ ⟨rfl, rfl⟩) | (go_at_call 94; refine (outside_c _ _ _ _).mono ?_; rintro e_ w_ ⟨rfl, rfl⟩) | (go_at_call 92; refine (firstError_2 _ _ _).mono ?_; rintro e_ w_ ⟨rfl, rfl⟩))
    rw [HF.out]
    go_wp2
    go_ret2
    exact ⟨rfl, (tr hb0 hb1 (by simp)).alloc (by have := hb1.size; simp at this; omega) _⟩
end Go.Proofs.YthkmeaibppkhmaaDoor

/- The reference's correlation and side lobe are those of the program: plain sums. No condition but equal lengths. -/
namespace Go.Proofs.YthkmeaibppkhmaaDoor
open Go.RowKit

/-- The reference's sum over the first numbers of b. -/
def corrRTo (a b : List Int) (lag : Int) : Nat → Int
  | 0 => 0
  | i + 1 => if outB ((i : Int) + lag) 0 ((a.length : Int) - 1) = false then corrRTo a b lag i + a.getD ((i : Int) + lag).toNat 0 * b.getD i 0 else corrRTo a b lag i

theorem getD_out {l : List Int} {k : Nat} (h : l.length ≤ k) : l.getD k 0 = 0 := by simp [List.getD, h]

theorem corrRTo_nat (a b : List Int) (m k : Nat) : corrRTo a b m k = corrTo a b m k := by
  induction k with
  | zero => rfl
  | succ k ih =>
    simp only [corrRTo, corrTo, ih]
    split
    · rename_i h
      rw [show ((k : Int) + (m : Int)).toNat = k + m from by omega]
    · rename_i h
      have h2 : ¬ ((0 : Int) ≤ (k : Int) + m ∧ (k : Int) + m ≤ (a.length : Int) - 1) := fun h3 => h (outB_false.2 h3)
      rw [getD_out (l := a) (by omega)]
      omega
theorem corrTo_past (a b : List Int) (m j : Nat) : corrTo a b m (a.length - m + j) = corrTo a b m (a.length - m) := by
  induction j with
  | zero => rfl
  | succ j ih =>
    rw [← Nat.add_assoc]
    simp only [corrTo]
    rw [ih, getD_out (l := a) (by omega)]
    omega
theorem corrRTo_low (a b : List Int) (m k : Nat) (h : k ≤ m) : corrRTo a b (-(m : Int)) k = 0 := by
  induction k with
  | zero => rfl
  | succ k ih =>
    have h1 : outB ((k : Int) + -(m : Int)) 0 ((a.length : Int) - 1) = true := outB_true.2 (.inl (by omega))
    simp only [corrRTo, h1]
    exact ih (by omega)
theorem corrRTo_neg (a b : List Int) (m j : Nat) (h : m + j ≤ b.length) (hab : a.length = b.length) : corrRTo a b (-(m : Int)) (m + j) = corrTo b a m j := by
  induction j with
  | zero => exact corrRTo_low a b m m (Nat.le_refl _)
  | succ j ih =>
    have h1 : outB (((m + j : Nat) : Int) + -(m : Int)) 0 ((a.length : Int) - 1) = false := outB_false.2 ⟨by omega, by omega⟩
    rw [← Nat.add_assoc]
    simp only [corrRTo, corrTo]
    rw [if_pos h1, ih (by omega), show (((m + j : Nat) : Int) + -(m : Int)).toNat = j from by omega, Nat.add_comm m j, Int.mul_comm]
theorem corrRTo_eq (a b : List Int) (lag : Int) (hab : a.length = b.length) (h1 : -(a.length : Int) ≤ lag) (h2 : lag ≤ a.length) : corrRTo a b lag b.length = corr a b lag := by
  unfold corr
  by_cases hn : lag < 0
  · obtain ⟨m, rfl⟩ : ∃ m : Nat, lag = -(m : Int) := ⟨(-lag).toNat, by omega⟩
    rw [if_pos hn, Int.neg_neg, Int.toNat_natCast]
    have h := corrRTo_neg a b m (b.length - m) (by omega) hab
    rw [show m + (b.length - m) = b.length from by omega] at h
    rw [h]; rfl
  · obtain ⟨m, rfl⟩ : ∃ m : Nat, lag = (m : Int) := ⟨lag.toNat, by omega⟩
    rw [if_neg hn, Int.toNat_natCast, corrRTo_nat]
    have h := corrTo_past a b m m
    rw [show a.length - m + m = b.length from by omega] at h
    rw [h]; rfl
theorem corrRTo_bd {a b : List Int} (ha : Small a) (hb : Small b) (lag : Int) (k : Nat) : -(k : Int) ≤ corrRTo a b lag k ∧ corrRTo a b lag k ≤ k := by
  induction k with
  | zero => simp [corrRTo]
  | succ k ih =>
    simp only [corrRTo]
    split
    · have h1 := ha.at_ ((k : Int) + lag).toNat
      have h2 := hb.at_ k
      have h3 := small_mul h1.1 h1.2 h2.1 h2.2
      omega
    · omega
end Go.Proofs.YthkmeaibppkhmaaDoor

/- Contracts: helpers of the statements and the references (lengths, sizes, checked codes). -/
namespace Go.Proofs.YthkmeaibppkhmaaDoor
open Go.RowKit
set_option maxRecDepth 100000

theorem few_c (n c : Nat) (A : Option Addr) (w : World) : Calls Tryd.prog 16 #[.slice A n c] w fun r w' => r = .returned (.bool (decide ((n : Int) ≤ 34))) ∧ w = w' := by
  go_enter Tryd.func16, Tryd.ntmps16
  go_wp2
  go_ret
  exact ⟨rfl, rfl⟩

theorem size_c (n : Int) (w : World) (h1 : -9223372036854775807 ≤ n) (h2 : n ≤ 9223372036854775807) : Calls Tryd.prog 100 #[.int .i64 n] w fun r w' => r = .returned (.int .i64 (if n < -n then -n else n)) ∧ w = w' := by
  by_cases h : n < -n
  · rw [if_pos h]
    go_enter Tryd.func100, Tryd.ntmps100
    go_wp2
    go_ret
    exact ⟨rfl, rfl⟩
  · rw [if_neg h]
    have h' : -n ≤ n := by omega
    go_enter Tryd.func100, Tryd.ntmps100
    go_wp2
    go_ret
    exact ⟨rfl, rfl⟩

theorem refCheckCode_c (l : List Int) (A : Option Addr) (c : Nat) (w : World) (hr : Rd w A (ints l)) (hl : l.length ≤ 1000) :
    Calls Tryd.prog 21 #[.slice A l.length c] w fun r w' => r = .returned (.int .i64 (codeE l)) ∧ w = w' := by
  by_cases h0 : l.length = 0
  · have H : Hid (codeE l = 10) := by
      have hx : lenE l.length 32 = 10 := by rw [lenE_eq, if_pos (by omega)]
      show codeE l = 10; unfold codeE; rw [hx]; rfl
    have e1 : ((l.length : Int) == 0) = true := by rw [h0]; rfl
    clear h0
    go_enter Tryd.func21, Tryd.ntmps21
    go_wp2
    go_ret
    exact ⟨by rw [H.out]; rfl, rfl⟩
  by_cases h32 : 32 < l.length
  · have H : Hid (codeE l = 8) := by
      have hx : lenE l.length 32 = 8 := by rw [lenE_eq, if_neg (by omega), if_pos (by omega)]
      show codeE l = 8; unfold codeE; rw [hx]; rfl
    have e1 : ((l.length : Int) == 0) = false := beq_eq_false_iff_ne.2 (by omega)
    have e2 : decide ((32 : Int) < l.length) = true := by simp; omega
    clear h0 h32
    go_enter Tryd.func21, Tryd.ntmps21
    go_wp2
    go_ret
    exact ⟨by rw [H.out]; rfl, rfl⟩
  have HE : Hid (codeE l = (firstBadFrom (fun _ n => codeItem n) 0 l).2) := by
    have hx : lenE l.length 32 = 0 := by rw [lenE_eq, if_neg (by omega), if_neg (by omega)]
    show codeE l = _; unfold codeE; rw [hx]; rfl
  have e1 : ((l.length : Int) == 0) = false := beq_eq_false_iff_ne.2 (by omega)
  have e2 : decide ((32 : Int) < l.length) = false := by simp; omega
  go_enter Tryd.func21, Tryd.ntmps21
  go_wp2
  go_loopw [3] (fun i wr => ∃ k : Nat, k ≤ l.length ∧ i = .int .i64 k ∧ wr = w ∧ Hid (∀ i (hi : i < k) (h : i < l.length), codeItem l[i] = 0)) (fun i _ => l.length - (intOf i).toNat)
  case atStart => exact ⟨0, Nat.zero_le _, rfl, rfl, fun _ h _ => absurd h (Nat.not_lt_zero _)⟩
  case round =>
    obtain ⟨k, hk, rfl, rfl, h0'⟩ := hrel
    by_cases hlt : k < l.length
    · obtain ⟨b, off, rfl, hbl, z0⟩ := hr.int_at hlt
      by_cases hit : l[k] = 1 ∨ l[k] = -1
      · have hnext : Hid (∀ i (hi : i < k + 1) (h : i < l.length), codeItem l[i] = 0) := fun i hi h => by
          by_cases e : i = k
          · subst e; unfold codeItem; rw [if_pos hit]
          · exact h0'.out i (by omega) h
        have hor : (l[k] != 1) = false ∨ ((l[k] != 1) = true ∧ (l[k] != -1) = false) := by
          rcases hit with h | h <;> rw [h] <;> decide
        clear hit
        generalize l[k] = x at z0 hor
        rcases hor with h1 | ⟨h1, h2⟩
        · go_wp2
          go_roundw
          case rel => exact ⟨k + 1, by omega, by go_num, by trivial, hnext⟩
          case measure => simp [intOf]; omega
        · go_wp2
          go_roundw
          case rel => exact ⟨k + 1, by omega, by go_num, by trivial, hnext⟩
          case measure => simp [intOf]; omega
      · have H : Hid (codeE l = 2) := by
          show codeE l = 2
          rw [HE.out, firstBadFrom_some (fun _ n => codeItem n) l 0 k hlt (fun i hi => by exact h0'.out i hi (by omega)) (by unfold codeItem; rw [if_neg hit]; decide)]
          show codeItem l[k] = 2
          unfold codeItem; rw [if_neg hit]
        have h1 : (l[k] != 1) = true := by simp; omega
        have h2 : (l[k] != -1) = true := by simp; omega
        clear hit
        generalize l[k] = x at z0 h1 h2
        go_wp2
        go_ret
        exact ⟨by rw [H.out]; rfl, rfl⟩
    · have H : Hid (codeE l = 0) := by
        show codeE l = 0
        rw [HE.out, firstBadFrom_none (fun _ n => codeItem n) l 0 (fun i hi => by simpa using h0'.out i (by omega) hi)]
      go_wp2
      go_ret
      exact ⟨by rw [H.out]; rfl, rfl⟩

theorem refCorr_to (a b : List Int) (A B : Option Addr) (c d : Nat) (lag : Int) (w : World) (hr : Rd w A (ints a)) (hs : Rd w B (ints b)) (ha : Small a) (hb : Small b) (hl : a.length ≤ 1000) (hl2 : b.length ≤ 1000) (h1 : -1000 ≤ lag) (h2 : lag ≤ 1000) :
    Calls Tryd.prog 27 #[.slice A a.length c, .slice B b.length d, .int .i64 lag] w fun r w' => r = .returned (.int .i64 (corrRTo a b lag b.length)) ∧ ∃ n, w' = w.drewN n := by
  go_enter Tryd.func27, Tryd.ntmps27
  go_wp2
  go_loopw [7, 8] (fun s i wr => ∃ k : Nat, k ≤ b.length ∧ i = .int .i64 k ∧ s = .int .i64 (corrRTo a b lag k) ∧ ∃ n, wr = w.drewN n) (fun _ i _ => b.length - (intOf i).toNat)
  case atStart => exact ⟨0, Nat.zero_le _, rfl, rfl, 0, rfl⟩
  case round =>
    obtain ⟨k, hk, rfl, rfl, n, rfl⟩ := hrel
    obtain ⟨h5, h6⟩ := corrRTo_bd ha hb lag k
    by_cases hlt : k < b.length
    · by_cases hin : outB ((k : Int) + lag) 0 ((a.length : Int) - 1) = false
      · obtain ⟨g1, g2⟩ := outB_false.1 hin
        obtain ⟨j, hj⟩ : ∃ j : Nat, (k : Int) + lag = j := ⟨((k : Int) + lag).toNat, by omega⟩
        have hja : j < a.length := by omega
        have H : Hid (corrRTo a b lag (k + 1) = corrRTo a b lag k + a[j] * b[k]) := by
          show corrRTo a b lag (k + 1) = _
          rw [corrRTo, if_pos hin, hj, Int.toNat_natCast]
          simp [List.getD, hja, hlt]
        obtain ⟨b1, off1, rfl, _, hc1⟩ := hr.int_at hja
        obtain ⟨b2, off2, rfl, _, hc2⟩ := hs.int_at hlt
        have m1 := ha _ (List.getElem_mem hja)
        have m2 := hb _ (List.getElem_mem hlt)
        obtain ⟨m3, m4⟩ := small_mul m1.1 m1.2 m2.1 m2.2
        rw [hj] at hin
        clear m1 m2
        generalize a[j] = x at hc1 m3 m4 H
        generalize b[k] = y at hc2 m3 m4 H
        generalize corrRTo a b lag k = s at h5 h6 H
        have hw1 : IntKind.i64.wrap ((k : Int) + lag) = j := by rw [hj]; simp (disch := omega) only [IntWalk.i64_in]
        have hw2 : IntKind.i64.wrap ((a.length : Int) - 1) = (a.length : Int) - 1 := by simp (disch := omega) only [IntWalk.i64_in]
        have hnb : (!outB (j : Int) 0 ((a.length : Int) - 1)) = true := by rw [hin]; rfl
        go_wp2_with (first | (go_at_call 26; refine (within_c _ _ _ _).mono ?_; rintro e_ w_ ⟨rfl, rfl⟩; try rw [hj]; try rw [hnb]))
        have ht : ((k : Int) + lag).toNat = j := by omega
        have hg : (k : Int) + lag < (a.length : Int) := by omega
        go_quiet (fail)
        go_wp2
        go_roundw
        case rel => exact ⟨k + 1, by omega, by go_num, by rw [H.out], _, rfl⟩
        case measure => simp [intOf]; omega
      · have H : Hid (corrRTo a b lag (k + 1) = corrRTo a b lag k) := by
          show corrRTo a b lag (k + 1) = _
          rw [corrRTo, if_neg hin]
        have hnb : (!outB ((k : Int) + lag) 0 ((a.length : Int) - 1)) = false := by simpa using hin
        clear hin
        generalize corrRTo a b lag k = s at h5 h6 H
        go_wp2_with (first | (go_at_call 26; refine (within_c _ _ _ _).mono ?_; rintro e_ w_ ⟨rfl, rfl⟩; try rw [hnb]))
        go_roundw
        case rel => exact ⟨k + 1, by omega, by go_num, by rw [H.out], n, rfl⟩
        case measure => simp [intOf]; omega
    · go_wp2
      go_ret
      exact ⟨by rw [show b.length = k from by omega]; rfl, n, rfl⟩

theorem refCorr_c (a b : List Int) (A B : Option Addr) (c d : Nat) (lag : Int) (w : World) (hr : Rd w A (ints a)) (hs : Rd w B (ints b)) (ha : Small a) (hb : Small b) (hl : a.length ≤ 1000) (hab : a.length = b.length) (h1 : -(a.length : Int) ≤ lag) (h2 : lag ≤ a.length) :
    Calls Tryd.prog 27 #[.slice A a.length c, .slice B b.length d, .int .i64 lag] w fun r w' => r = .returned (.int .i64 (corr a b lag)) ∧ ∃ n, w' = w.drewN n := by
  have h := refCorr_to a b A B c d lag w hr hs ha hb hl (by omega) (by omega) (by omega)
  rw [corrRTo_eq a b lag hab h1 h2] at h
  exact h

theorem refSidelobe_c (l : List Int) (A : Option Addr) (c : Nat) (w : World) (hr : Rd w A (ints l)) (hs : Small l) (hl : l.length ≤ 1000) (h1 : 1 ≤ l.length) :
    Calls Tryd.prog 23 #[.slice A l.length c] w fun r w' => r = .returned (.int .i64 (sideTo l (l.length - 1))) ∧ ∃ n, w' = w.drewN n := by
  have HC : Hid (∀ (k : Nat) (W : World), k ≤ l.length → Rd W A (ints l) → Calls Tryd.prog 27 #[.slice A l.length c, .slice A l.length c, .int .i64 k] W fun r w' => r = .returned (.int .i64 (corrN l l k)) ∧ ∃ n, w' = W.drewN n) := fun k W hk hw => by
    have h := refCorr_c l l A A c c k W hw hw hs hs hl rfl (by omega) (by omega)
    rw [show corr l l (k : Int) = corrN l l k from by unfold corr; rw [if_neg (by omega), Int.toNat_natCast]] at h
    exact h
  go_enter Tryd.func23, Tryd.ntmps23
  go_wp2
  go_loopw [3, 4] (fun m i wr => ∃ k : Nat, 1 ≤ k ∧ k ≤ l.length ∧ i = .int .i64 k ∧ m = .int .i64 (sideTo l (k - 1)) ∧ ∃ n, wr = w.drewN n) (fun _ i _ => l.length - (intOf i).toNat)
  case atStart => exact ⟨1, Nat.le_refl _, h1, rfl, rfl, 0, rfl⟩
  case round =>
    obtain ⟨k, hk1, hk, rfl, rfl, n, rfl⟩ := hrel
    by_cases hlt : k < l.length
    · obtain ⟨g1, g2⟩ := corrN_bd hs hs k
      have HS : Hid (sideTo l k = if sideTo l (k - 1) < (if corrN l l k < -(corrN l l k) then -(corrN l l k) else corrN l l k) then (if corrN l l k < -(corrN l l k) then -(corrN l l k) else corrN l l k) else sideTo l (k - 1)) := by
        show _ = _
        rw [sideTo_succ l k hk1]
        generalize corrN l l k = x
        generalize sideTo l (k - 1) = y
        repeat' (first | omega | split)
      have HCk := hide (HC.out k (w.drewN n) hk (hr.drewN n))
      obtain ⟨m, hm⟩ : ∃ m, (if corrN l l k < -(corrN l l k) then -(corrN l l k) else corrN l l k) = m := ⟨_, rfl⟩
      have HM := hide hm
      rw [hm] at HS
      have hmb : -1000 ≤ m ∧ m ≤ 1000 := by rw [← hm]; split <;> omega
      have HZ : Hid (∀ W : World, Calls Tryd.prog 100 #[.int .i64 (corrN l l k)] W fun r w' => r = .returned (.int .i64 m) ∧ W = w') := fun W => by
        have h := size_c (corrN l l k) W (by omega) (by omega)
        rw [hm] at h
        exact h
      clear hm
      generalize corrN l l k = x at g1 g2 HCk HZ
      by_cases hlm : sideTo l (k - 1) < m
      · have HS2 : Hid (sideTo l k = m) := by have := HS.out; rw [if_pos hlm] at this; exact this
        generalize sideTo l (k - 1) = y at hlm
        go_wp2_with (first | (go_at_call 27; refine HCk.out.mono ?_; rintro e w3 ⟨rfl, n3, rfl⟩) | (go_at_call 100; refine (HZ.out _).mono ?_; rintro e w4 ⟨rfl, rfl⟩))
        go_roundw
        case rel => exact ⟨k + 1, by omega, by omega, by go_num, by rw [Nat.add_sub_cancel, HS2.out], _, rfl⟩
        case measure => simp [intOf]; omega
      · have HS2 : Hid (sideTo l k = sideTo l (k - 1)) := by have := HS.out; rw [if_neg hlm] at this; exact this
        have hlm' : m ≤ sideTo l (k - 1) := by omega
        generalize sideTo l (k - 1) = y at hlm hlm' HS2
        go_wp2_with (first | (go_at_call 27; refine HCk.out.mono ?_; rintro e w3 ⟨rfl, n3, rfl⟩) | (go_at_call 100; refine (HZ.out _).mono ?_; rintro e w4 ⟨rfl, rfl⟩))
        go_roundw
        case rel => exact ⟨k + 1, by omega, by omega, by go_num, by rw [Nat.add_sub_cancel, HS2.out], _, rfl⟩
        case measure => simp [intOf]; omega
    · obtain rfl : k = l.length := by omega
      go_wp2
      go_ret
      exact ⟨rfl, n, rfl⟩
end Go.Proofs.YthkmeaibppkhmaaDoor

/- Contracts: the ticks at which a chirp rises. -/
namespace Go.Proofs.YthkmeaibppkhmaaDoor
open Go.RowKit
set_option maxRecDepth 100000

/-- The ticks below k at which a chirp rises. -/
def risesL (s n d : Int) : Nat → List Int
  | 0 => []
  | k + 1 => if 1 ≤ k ∧ freq s n d ((k : Int) - 1) < freq s n d k then risesL s n d k ++ [(k : Int)] else risesL s n d k
theorem risesL_le (s n d : Int) (k : Nat) : (risesL s n d k).length ≤ k := by
  induction k with
  | zero => simp [risesL]
  | succ k ih =>
    simp only [risesL]
    split
    · simp; omega
    · omega
theorem risesL_one (s n d : Int) : risesL s n d 1 = [] := by simp [risesL]
theorem risesL_cap (s n d : Int) (count k : Nat) (h1 : 1 ≤ k) (h2 : count ≤ k) (h3 : k ≤ max count 1) : risesL s n d k = risesL s n d count := by
  rcases Nat.lt_or_ge count 1 with h | h
  · obtain rfl : k = 1 := by omega
    obtain rfl : count = 0 := by omega
    simp [risesL]
  · obtain rfl : k = count := by omega
    rfl

theorem below_own {w w' : World} {B : Nat} {row : Option Nat} (hg : w.grownBy w' row) (hB : B ≤ w.heap.size) (hr : ∀ k, row = some k → B ≤ k) : Below B w w' := (Below.refl _ _).grown hg hB hr

theorem risesOf_c (s n d count : Int) (w : World) :
    Calls Tryd.prog 45 #[.agg #[.int .i64 s, .int .i64 n, .int .i64 d], .int .i64 count] w fun r w' =>
      ((chirpNE s n d count 0 64 ≠ 0 ∧ r = .returned (.tuple #[.slice none 0 0, .int .i64 (chirpNE s n d count 0 64)])) ∨
        (chirpNE s n d count 0 64 = 0 ∧ ∃ A c, r = .returned (.tuple #[.slice A (risesL s n d count.toNat).length c, .int .i64 0]) ∧ RdT w' 3 A (ints (risesL s n d count.toNat)))) ∧ Below w.heap.size w w' := by
  obtain ⟨i0, hi, iz0, iz1, iz2⟩ := info_parts Tryd.info3
  by_cases he : chirpNE s n d count 0 64 = 0
  · have e1 : (chirpNE s n d count 0 64 != 0) = false := by simpa using he
    obtain ⟨g0, g1, g2⟩ := chirpNE_zero he
    obtain ⟨count, rfl⟩ : ∃ k : Nat, count = (k : Int) := ⟨count.toNat, by omega⟩
    rw [Int.toNat_natCast]
    have HE := hide he
    have HC := hide g0
    obtain ⟨q1, q2, q3, q4, q5, q6⟩ := chirpE_zero g0
    clear he g0
    have e2 : (firstE [chirpE s n d, errIf (outB count 0 64) 2] != 0) = false := e1
    clear e1
    go_enter Tryd.func45, Tryd.ntmps45
    go_wp2_with (first
      | (go_at_call 48; refine (checkChirp_c _ _ _ _).mono ?_; rintro e w1 ⟨rfl, hb1⟩)
      | (go_at_call 93; refine (errorIf_c _ _ _).mono ?_; rintro e_ w_ ⟨rfl, rfl⟩) | (go_at_call 94; refine (outside_c _ _ _ _).mono ?_; rintro e_ w_ ⟨rfl, rfl⟩) | (go_at_call 92; refine (firstError_2 _ _ _).mono ?_; rintro e_ w_ ⟨rfl, rfl⟩))
    have hX : Blk (w.alloc (.cells #[.int .i64 s, .int .i64 n, .int .i64 d] 64)) w.heap.size 64 [.int .i64 s, .int .i64 n, .int .i64 d] := Blk.new w _ [_, _, _]
    have hX1 := hX.bel hb1
    obtain ⟨V, hV⟩ : ∃ V, w1.alloc (.cells #[.int .i64 (chirpE s n d), .int .i64 (errIf (outB count 0 64) 2)] 25) = V := ⟨_, rfl⟩
    rw [hV]
    have hb1V : Below w1.heap.size w1 V := by rw [← hV]; exact (Below.refl _ _).alloc (Nat.le_refl _) _
    have hXV := hX1.bel hb1V
    have hwV : Below w.heap.size w V := tr (tr ((Below.refl _ _).alloc (Nat.le_refl _) _) hb1 (by simp)) hb1V (by have := hb1.size; simp at this; omega)
    clear hV hb1 hb1V hX hX1
    have hzV := hXV.lt
    go_loopw [7, 8] (fun v i wr => ∃ k : Nat, 1 ≤ k ∧ k ≤ max count 1 ∧ i = .int .i64 k ∧ Below V.heap.size V wr ∧ wr.ownsRow V.heap.size 3 1 v (risesL s n d k).length (ints (risesL s n d k))) (fun _ i _ => count - (intOf i).toNat)
    case atStart => exact ⟨1, Nat.le_refl _, by omega, rfl, Below.refl _ _, by rw [risesL_one]; exact World.ownsRow_nil _ _ _ _⟩
    case round =>
      obtain ⟨k, hk1, hk2, rfl, hbr, hown⟩ := hrel
      by_cases hlt : k < count
      · have hXr := hXV.below hbr hzV
        have c0 := hXr.cell 0
        have c1 := hXr.cell 1
        have c2 := hXr.cell 2
        simp only [List.getElem?_cons_zero, List.getElem?_cons_succ] at c0 c1 c2
        have HS := hide (show wr.cell? ⟨w.heap.size, 0, none⟩ = some (.int .i64 s) ∧ wr.cell? ⟨w.heap.size, 1, none⟩ = some (.int .i64 n) ∧ wr.cell? ⟨w.heap.size, 2, none⟩ = some (.int .i64 d) ∧ Below wr.heap.size wr wr from ⟨c0, c1, c2, Below.refl _ _⟩)
        clear c0 c1 c2
        have hw1 : IntKind.i64.wrap ((k : Int) - 1) = (k : Int) - 1 := by simp (disch := omega) only [IntWalk.i64_in]
        have hF : Hid (risesL s n d (k + 1) = if 1 ≤ k ∧ freq s n d ((k : Int) - 1) < freq s n d k then risesL s n d k ++ [(k : Int)] else risesL s n d k) := rfl
        have hle := risesL_le s n d k
        by_cases hgt : freq s n d ((k : Int) - 1) < freq s n d k
        · have hF2 : Hid (risesL s n d (k + 1) = risesL s n d k ++ [(k : Int)]) := by have := hF.out; rw [if_pos ⟨hk1, hgt⟩] at this; exact this
          generalize hfk : freq s n d (k : Int) = fk at hgt
          generalize hfk1 : freq s n d ((k : Int) - 1) = fk1 at hgt
          have HFK := hide hfk
          have HFK1 := hide hfk1
          clear hfk hfk1 hF
          generalize risesL s n d k = L at hown hle hF2
          go_upto_region 8 with fail
          go_region_held3 (fun w' => w'.cell? ⟨w.heap.size, 0, none⟩ = some (.int .i64 s) ∧ w'.cell? ⟨w.heap.size, 1, none⟩ = some (.int .i64 n) ∧ w'.cell? ⟨w.heap.size, 2, none⟩ = some (.int .i64 d) ∧ Below wr.heap.size wr w')
            (first | with_reducible exact hd3_drew HS.out | with_reducible exact H3.out | with_reducible exact H4.out)
            (first
              | (go_at_call 108; have _g := H3; refine (frequency_c s n d _ _ q1 q2 q3 q4 q5 q6 (by omega) (by omega)).mono ?_; rintro e w4 ⟨rfl, hb4⟩; have H4 := hide (hd3_bel H3.out hb4 H3.out.2.2.2.size))
              | (go_at_call 108; refine (frequency_c s n d _ _ q1 q2 q3 q4 q5 q6 (by omega) (by omega)).mono ?_; rintro e w3 ⟨rfl, hb3⟩; have H3 := hide (hd3_bel (hd3_drew HS.out) hb3 (by simp))))
          rw [HFK.out, HFK1.out]
          have hown4 := ownsRow_bel hown H4.out.2.2.2
          have hb4' : Below V.heap.size V w4 := tr hbr H4.out.2.2.2 hbr.size
          clear H3 hb3 hb4
          go_wp2_with (first | (at_builtin; refine wpList_append_own _ rfl _ _ 22 rfl V.heap.size 3 i0 (.int .i64 0) 1 8 Tryd.underlying22 hi iz0 iz1 iz2 rfl (by decide) _ _ _ rfl (hown4.alloc _) ⟨w4.heap.size, 0, none⟩ 1 1 [.int .i64 (k : Int)] rfl rfl (cell_one_new _ _ _) (by simp [Value.oneCell']) (by unfold maxLen; omega) (by omega) (by have := hb4'.size; simp; omega) ?_; intro v' w5 hown5 hg5 _))
          have hb5 : Below V.heap.size V w5 := (hb4'.alloc hb4'.size _).grown hg5 (by have := hb4'.size; simp; omega) (fun j hj => (hown4.lt j hj).1)
          go_roundw
          case rel => exact ⟨k + 1, by omega, by omega, by go_num, hb5, by rw [hF2.out, List.length_append, ints_append]; exact hown5⟩
          case measure => simp [intOf]; omega
        · have hF2 : Hid (risesL s n d (k + 1) = risesL s n d k) := by have := hF.out; rw [if_neg (fun h => hgt h.2)] at this; exact this
          have hng : freq s n d k ≤ freq s n d ((k : Int) - 1) := by omega
          clear hgt
          generalize hfk : freq s n d (k : Int) = fk at hng
          generalize hfk1 : freq s n d ((k : Int) - 1) = fk1 at hng
          have HFK := hide hfk
          have HFK1 := hide hfk1
          clear hfk hfk1 hF
          generalize risesL s n d k = L at hown hle hF2
          go_upto_region 8 with fail
          go_region_held3 (fun w' => w'.cell? ⟨w.heap.size, 0, none⟩ = some (.int .i64 s) ∧ w'.cell? ⟨w.heap.size, 1, none⟩ = some (.int .i64 n) ∧ w'.cell? ⟨w.heap.size, 2, none⟩ = some (.int .i64 d) ∧ Below wr.heap.size wr w')
            (first | with_reducible exact hd3_drew HS.out | with_reducible exact H3.out | with_reducible exact H4.out)
            (first
              | (go_at_call 108; have _g := H3; refine (frequency_c s n d _ _ q1 q2 q3 q4 q5 q6 (by omega) (by omega)).mono ?_; rintro e w4 ⟨rfl, hb4⟩; have H4 := hide (hd3_bel H3.out hb4 H3.out.2.2.2.size))
              | (go_at_call 108; refine (frequency_c s n d _ _ q1 q2 q3 q4 q5 q6 (by omega) (by omega)).mono ?_; rintro e w3 ⟨rfl, hb3⟩; have H3 := hide (hd3_bel (hd3_drew HS.out) hb3 (by simp))))
          rw [HFK.out, HFK1.out]
          have hown4 := ownsRow_bel hown H4.out.2.2.2
          have hb4' : Below V.heap.size V w4 := tr hbr H4.out.2.2.2 hbr.size
          clear H3 hb3 hb4
          go_wp2
          go_roundw
          case rel => exact ⟨k + 1, by omega, by omega, by go_num, hb4', by rw [hF2.out]; exact hown4⟩
          case measure => simp [intOf]; omega
      · have hcap := hide (risesL_cap s n d count k hk1 (by omega) hk2)
        obtain ⟨A, c, rfl⟩ := ownsRow_slice hown
        go_wp2
        go_ret2
        refine ⟨.inr ⟨HE.out, A, c, by rw [← hcap.out]; rfl, ?_⟩, tr hwV hbr hwV.size⟩
        rw [← hcap.out]
        exact RdT.of_own hown
  · have e1 : (chirpNE s n d count 0 64 != 0) = true := by simpa using he
    have HE := hide he
    clear he
    have e2 : (firstE [chirpE s n d, errIf (outB count 0 64) 2] != 0) = true := e1
    clear e1
    go_enter Tryd.func45, Tryd.ntmps45
    go_wp2_with (first
      | (go_at_call 48; refine (checkChirp_c _ _ _ _).mono ?_; rintro e w1 ⟨rfl, hb1⟩)
      | (go_at_call 93; refine (errorIf_c _ _ _).mono ?_; rintro e_ w_ ⟨rfl, rfl⟩) | (go_at_call 94; refine (outside_c _ _ _ _).mono ?_; rintro e_ w_ ⟨rfl, rfl⟩) | (go_at_call 92; refine (firstError_2 _ _ _).mono ?_; rintro e_ w_ ⟨rfl, rfl⟩))
    go_ret2
    exact ⟨.inl ⟨HE.out, rfl⟩, (tr ((Below.refl _ _).alloc (Nat.le_refl _) _) hb1 (by simp)).alloc (by have := hb1.size; simp at this; omega) _⟩
end Go.Proofs.YthkmeaibppkhmaaDoor

/- Contracts: copies of lists, the reference's chirps, powers of i, the wave of a code as the reference makes it. -/
namespace Go.Proofs.YthkmeaibppkhmaaDoor
open Go.RowKit
set_option maxRecDepth 100000

theorem copyInts_c (l : List Int) (A : Option Addr) (c : Nat) (w : World) (hr : Rd w A (ints l)) (hl : l.length ≤ 100000) :
    Calls Tryd.prog 18 #[.slice A l.length c] w fun r w' => (∃ A' c', r = .returned (.slice A' l.length c') ∧ RdT w' 3 A' (ints l)) ∧ Below w.heap.size w w' := by
  obtain ⟨i0, hi, iz0, iz1, iz2⟩ := info_parts Tryd.info3
  go_enter Tryd.func18, Tryd.ntmps18
  go_wp2_with (first | (at_builtin; refine wpList_append_rd _ rfl _ _ 22 rfl w.heap.size 3 i0 (.int .i64 0) 1 8 Tryd.underlying22 hi iz0 iz1 iz2 rfl (by decide) (.slice (some ⟨w.heap.size, 0, none⟩) 0 0) 0 [] rfl (World.ownsRow_made w #[] 0 (Nat.le_refl _) (by unfold maxLen; omega) rfl) A l.length c (ints l) rfl (by simp) (hr.alloc _) (ints_one l) (by unfold maxLen; omega) (by omega) (by simp) ?_; intro v' w1 hown1 hg1))
  obtain ⟨A', c', rfl⟩ := ownsRow_slice hown1
  have hb : Below w.heap.size w w1 := ((Below.refl _ _).alloc (Nat.le_refl _) (.cells #[] 3)).grown hg1 (by simp) (by simp [Value.ownBlock])
  go_ret
  exact ⟨⟨A', c', by rw [Nat.zero_add]; rfl, by simpa using RdT.of_own hown1⟩, hb⟩

theorem copyGausses_c (l : List (Int × Int)) (A : Option Addr) (c : Nat) (w : World) (hr : Rd w A (gs l)) (hl : l.length ≤ 100000) :
    Calls Tryd.prog 61 #[.slice A l.length c] w fun r w' => (∃ A' c', r = .returned (.slice A' l.length c') ∧ RdT w' 76 A' (gs l)) ∧ Below w.heap.size w w' := by
  obtain ⟨i0, hi, iz0, iz1, iz2⟩ := info_parts Tryd.info76
  go_enter Tryd.func61, Tryd.ntmps61
  go_wp2_with (first | (at_builtin; refine wpList_append_rd _ rfl _ _ 30 rfl w.heap.size 76 i0 _ 2 16 Tryd.underlying30 hi iz0 iz1 iz2 rfl (by decide) (.slice (some ⟨w.heap.size, 0, none⟩) 0 0) 0 [] rfl (World.ownsRow_made w #[] 0 (Nat.le_refl _) (by unfold maxLen; omega) rfl) A l.length c (gs l) rfl (by simp) (hr.alloc _) (gs_one l) (by unfold maxLen; omega) (by omega) (by simp) ?_; intro v' w1 hown1 hg1))
  obtain ⟨A', c', rfl⟩ := ownsRow_slice hown1
  have hb : Below w.heap.size w w1 := ((Below.refl _ _).alloc (Nat.le_refl _) (.cells #[] 76)).grown hg1 (by simp) (by simp [Value.ownBlock])
  go_ret
  exact ⟨⟨A', c', by rw [Nat.zero_add]; rfl, by simpa using RdT.of_own hown1⟩, hb⟩

theorem refChirpErr_c (s n d : Int) (w : World) : Calls Tryd.prog 47 #[.agg #[.int .i64 s, .int .i64 n, .int .i64 d]] w fun r w' => r = .returned (.int .i64 (chirpE s n d)) ∧ Below w.heap.size w w' := by
  have H : Hid (chirpE s n d = errIf (outB s 0 100000 || (outB n 0 1000 || outB d 1 1000)) 2) := by
    show chirpE s n d = _
    unfold chirpE errIf
    simp only [Bool.or_eq_true, outB_true]
    congr 1
    simp only [eq_iff_iff]
    omega
  generalize h1 : outB s 0 100000 = b1 at H
  generalize h2 : outB n 0 1000 = b2 at H
  generalize h3 : outB d 1 1000 = b3 at H
  cases b1 <;> cases b2 <;> cases b3 <;> (
    go_enter Tryd.func47, Tryd.ntmps47
    go_wp2_with (first | (go_at_call 26; refine (within_c _ _ _ _).mono ?_; rintro e w' ⟨rfl, rfl⟩))
    go_ret
    exact ⟨by rw [H.out]; rfl, (Below.refl _ _).alloc (Nat.le_refl _) _⟩)

theorem refChirpAt_c (s n d t : Int) (w : World) (h1 : 0 ≤ s) (h2 : s ≤ 100000) (h3 : 0 ≤ n) (h4 : n ≤ 1000) (h5 : 1 ≤ d) (h6 : d ≤ 1000) (h7 : 0 ≤ t) (h8 : t ≤ 1000000) :
    Calls Tryd.prog 49 #[.agg #[.int .i64 s, .int .i64 n, .int .i64 d], .int .i64 t] w fun r w' => r = .returned (.int .i64 (freq s n d t)) ∧ Below w.heap.size w w' := by
  have hp : t * n ≤ 1000000 * 1000 := Int.mul_le_mul h8 h4 h3 (by omega)
  have hp0 : 0 ≤ t * n := Int.mul_nonneg h7 h3
  have hq0 : 0 ≤ t * n / d := Int.ediv_nonneg hp0 (by omega)
  have hq : t * n / d ≤ t * n := Int.ediv_le_self _ hp0
  go_enter Tryd.func49, Tryd.ntmps49
  have e1 : (d == 0) = false := by simp; omega
  go_wp2
  go_quiet (fail)
  go_wp2
  go_ret
  exact ⟨rfl, below_drewN ((Below.refl _ _).alloc (Nat.le_refl _) _) _⟩

theorem mod_c (n by_ : Int) (w : World) (h1 : 1 ≤ by_) (h2 : by_ ≤ 1000000000) (h3 : -4611686018427387904 ≤ n) (h4 : n ≤ 4611686018427387904) :
    Calls Tryd.prog 109 #[.int .i64 n, .int .i64 by_] w fun r w' => r = .returned (.int .i64 (n % by_)) ∧ w = w' := by
  have e1 : (by_ == 0) = false := by simp; omega
  have e2 : (by_ == -1) = false := by simp; omega
  by_cases hn : 0 ≤ n
  · have hm0 : 0 ≤ n % by_ := Int.emod_nonneg _ (by omega)
    have hm1 : n % by_ < by_ := Int.emod_lt_of_pos _ (by omega)
    go_enter Tryd.func109, Tryd.ntmps109
    go_wp2
    go_ret
    exact ⟨rfl, rfl⟩
  · have hlo : -by_ < n.tmod by_ := Int.lt_tmod_of_pos n (by omega)
    have hhi : n.tmod by_ ≤ 0 := by
      have := Int.tmod_nonneg by_ (show 0 ≤ -n by omega)
      rw [Int.neg_tmod] at this; omega
    by_cases hz : n.tmod by_ = 0
    · have H : Hid (n % by_ = 0) := by
        show n % by_ = 0
        exact Int.emod_eq_zero_of_dvd (Int.dvd_of_tmod_eq_zero hz)
      go_enter Tryd.func109, Tryd.ntmps109
      go_wp2
      go_ret
      exact ⟨by rw [H.out]; rfl, rfl⟩
    · have H : Hid (n % by_ = n.tmod by_ + by_) := by
        show n % by_ = _
        have h5 := Int.emod_nonneg n (show by_ ≠ 0 by omega)
        have h6 := Int.emod_lt_of_pos n (show 0 < by_ by omega)
        have h7 := Int.mul_tdiv_add_tmod n by_
        have h8 := Int.mul_ediv_add_emod n by_
        have h9 : by_ * (n / by_) - by_ * (n.tdiv by_) = n.tmod by_ - n % by_ := by omega
        rw [← Int.mul_sub] at h9
        have h10 : n / by_ - n.tdiv by_ = -1 := by
          generalize n / by_ - n.tdiv by_ = q at h9
          rcases Int.lt_trichotomy q (-1) with h | h | h
          · have := Int.mul_le_mul_of_nonneg_left (show q ≤ -2 by omega) (show 0 ≤ by_ by omega); omega
          · exact h
          · have := Int.mul_le_mul_of_nonneg_left (show 0 ≤ q by omega) (show 0 ≤ by_ by omega); omega
        rw [h10] at h9
        omega
      have hneg : n.tmod by_ < 0 := by omega
      clear hz
      go_enter Tryd.func109, Tryd.ntmps109
      go_wp2
      go_ret
      exact ⟨by rw [H.out]; rfl, rfl⟩

theorem refTurn_c (n : Int) (w : World) (h3 : -4611686018427387904 ≤ n) (h4 : n ≤ 4611686018427387904) :
    Calls Tryd.prog 53 #[.int .i64 n] w fun r w' => r = .returned (.agg #[.int .i64 (turnG (n % 4).toNat).1, .int .i64 (turnG (n % 4).toNat).2]) ∧ Below w.heap.size w w' := by
  have HM : ∀ W, Calls Tryd.prog 109 #[.int .i64 n, .int .i64 4] W fun r w' => r = .returned (.int .i64 (n % 4)) ∧ W = w' := fun W => mod_c n 4 W (by omega) (by omega) h3 h4
  have hc : n % 4 = 0 ∨ n % 4 = 1 ∨ n % 4 = 2 ∨ n % 4 = 3 := by omega
  rcases hc with h | h | h | h <;> (
    rw [h] at HM ⊢
    have HMH := hide HM
    clear HM h h3 h4
    go_enter Tryd.func53, Tryd.ntmps53
    go_wp2_with (first | (go_at_call 109; refine (HMH.out _).mono ?_; rintro e w_ ⟨rfl, rfl⟩))
    refine bodyPost_ret (by simp [results, Tryd.results53, go_sem]; try rfl) rfl ?_
    refine ⟨rfl, ?_⟩
    exact ((Below.refl _ _).alloc (Nat.le_refl _) _).alloc (by simp) _)

/-- The sum of all frequencies below a tick. -/
def sumN (s n d : Int) : Nat → Int
  | 0 => 0
  | t + 1 => sumN s n d t + freq s n d t
theorem sumN_phase (s n d : Int) (t : Nat) : (sumN s n d t % 4).toNat = phaseN s n d t := by
  induction t with
  | zero => rfl
  | succ t ih => simp only [sumN, phaseN]; omega
theorem sumN_bd {s n d : Int} (h : chirpE s n d = 0) (t : Nat) (ht : t ≤ 1000000) : 0 ≤ sumN s n d t ∧ sumN s n d t ≤ 1000100000 * (t : Int) := by
  induction t with
  | zero => simp [sumN]
  | succ t ih =>
    obtain ⟨a, b⟩ := ih (by omega)
    obtain ⟨c, e⟩ := freq_bd (t := t) h (by omega) (by omega)
    simp only [sumN]
    omega

theorem refRisesOf_c (s n d : Int) (count : Nat) (w : World) (hE : chirpE s n d = 0) (hc : count ≤ 1000) :
    Calls Tryd.prog 50 #[.agg #[.int .i64 s, .int .i64 n, .int .i64 d], .int .i64 count] w fun r w' =>
      (∃ A c, r = .returned (.slice A (risesL s n d count).length c) ∧ RdT w' 3 A (ints (risesL s n d count))) ∧ Below w.heap.size w w' := by
  obtain ⟨i0, hi, iz0, iz1, iz2⟩ := info_parts Tryd.info3
  obtain ⟨q1, q2, q3, q4, q5, q6⟩ := chirpE_zero hE
  have HC := hide hE
  clear hE
  have hXV : Blk (w.alloc (.cells #[.int .i64 s, .int .i64 n, .int .i64 d] 64)) w.heap.size 64 [.int .i64 s, .int .i64 n, .int .i64 d] := Blk.new w _ [_, _, _]
  have hwV : Below w.heap.size w (w.alloc (.cells #[.int .i64 s, .int .i64 n, .int .i64 d] 64)) := (Below.refl _ _).alloc (Nat.le_refl _) _
  go_enter Tryd.func50, Tryd.ntmps50
  go_wp2
  obtain ⟨V, hV⟩ : ∃ V, w.alloc (.cells #[.int .i64 s, .int .i64 n, .int .i64 d] 64) = V := ⟨_, rfl⟩
  rw [hV] at hXV hwV ⊢
  clear hV
  have hzV := hXV.lt
  go_loopw [5, 6] (fun v i wr => ∃ k : Nat, 1 ≤ k ∧ k ≤ max count 1 ∧ i = .int .i64 k ∧ Below V.heap.size V wr ∧ wr.ownsRow V.heap.size 3 1 v (risesL s n d k).length (ints (risesL s n d k))) (fun _ i _ => count - (intOf i).toNat)
  case atStart => exact ⟨1, Nat.le_refl _, by omega, rfl, Below.refl _ _, by rw [risesL_one]; exact World.ownsRow_nil _ _ _ _⟩
  case round =>
    obtain ⟨k, hk1, hk2, rfl, hbr, hown⟩ := hrel
    by_cases hlt : k < count
    · have hXr := hXV.below hbr hzV
      have c0 := hXr.cell 0
      have c1 := hXr.cell 1
      have c2 := hXr.cell 2
      simp only [List.getElem?_cons_zero, List.getElem?_cons_succ] at c0 c1 c2
      have HS := hide (show wr.cell? ⟨w.heap.size, 0, none⟩ = some (.int .i64 s) ∧ wr.cell? ⟨w.heap.size, 1, none⟩ = some (.int .i64 n) ∧ wr.cell? ⟨w.heap.size, 2, none⟩ = some (.int .i64 d) ∧ Below wr.heap.size wr wr from ⟨c0, c1, c2, Below.refl _ _⟩)
      clear c0 c1 c2
      have hw1 : IntKind.i64.wrap ((k : Int) - 1) = (k : Int) - 1 := by simp (disch := omega) only [IntWalk.i64_in]
      have hF : Hid (risesL s n d (k + 1) = if 1 ≤ k ∧ freq s n d ((k : Int) - 1) < freq s n d k then risesL s n d k ++ [(k : Int)] else risesL s n d k) := rfl
      have hle := risesL_le s n d k
      by_cases hgt : freq s n d ((k : Int) - 1) < freq s n d k
      · have hF2 : Hid (risesL s n d (k + 1) = risesL s n d k ++ [(k : Int)]) := by have := hF.out; rw [if_pos ⟨hk1, hgt⟩] at this; exact this
        generalize hfk : freq s n d (k : Int) = fk at hgt
        generalize hfk1 : freq s n d ((k : Int) - 1) = fk1 at hgt
        have HFK := hide hfk
        have HFK1 := hide hfk1
        clear hfk hfk1 hF
        generalize risesL s n d k = L at hown hle hF2
        go_upto_region 5 with fail
        go_region_held3 (fun w' => w'.cell? ⟨w.heap.size, 0, none⟩ = some (.int .i64 s) ∧ w'.cell? ⟨w.heap.size, 1, none⟩ = some (.int .i64 n) ∧ w'.cell? ⟨w.heap.size, 2, none⟩ = some (.int .i64 d) ∧ Below wr.heap.size wr w')
          (first | with_reducible exact hd3_drew HS.out | with_reducible exact H3.out | with_reducible exact H4.out)
          (first
            | (go_at_call 49; have _g := H3; refine (refChirpAt_c s n d _ _ q1 q2 q3 q4 q5 q6 (by omega) (by omega)).mono ?_; rintro e w4 ⟨rfl, hb4⟩; have H4 := hide (hd3_bel H3.out hb4 H3.out.2.2.2.size))
            | (go_at_call 49; refine (refChirpAt_c s n d _ _ q1 q2 q3 q4 q5 q6 (by omega) (by omega)).mono ?_; rintro e w3 ⟨rfl, hb3⟩; have H3 := hide (hd3_bel (hd3_drew HS.out) hb3 (by simp))))
        rw [HFK.out, HFK1.out]
        have hown4 := ownsRow_bel hown H4.out.2.2.2
        have hb4' : Below V.heap.size V w4 := tr hbr H4.out.2.2.2 hbr.size
        clear H3 hb3 hb4
        go_wp2_with (first | (at_builtin; refine wpList_append_own _ rfl _ _ 22 rfl V.heap.size 3 i0 (.int .i64 0) 1 8 Tryd.underlying22 hi iz0 iz1 iz2 rfl (by decide) _ _ _ rfl (hown4.alloc _) ⟨w4.heap.size, 0, none⟩ 1 1 [.int .i64 (k : Int)] rfl rfl (cell_one_new _ _ _) (by simp [Value.oneCell']) (by unfold maxLen; omega) (by omega) (by have := hb4'.size; simp; omega) ?_; intro v' w5 hown5 hg5 _))
        have hb5 : Below V.heap.size V w5 := (hb4'.alloc hb4'.size _).grown hg5 (by have := hb4'.size; simp; omega) (fun j hj => (hown4.lt j hj).1)
        go_roundw
        case rel => exact ⟨k + 1, by omega, by omega, by go_num, hb5, by rw [hF2.out, List.length_append, ints_append]; exact hown5⟩
        case measure => simp [intOf]; omega
      · have hF2 : Hid (risesL s n d (k + 1) = risesL s n d k) := by have := hF.out; rw [if_neg (fun h => hgt h.2)] at this; exact this
        have hng : freq s n d k ≤ freq s n d ((k : Int) - 1) := by omega
        clear hgt
        generalize hfk : freq s n d (k : Int) = fk at hng
        generalize hfk1 : freq s n d ((k : Int) - 1) = fk1 at hng
        have HFK := hide hfk
        have HFK1 := hide hfk1
        clear hfk hfk1 hF
        generalize risesL s n d k = L at hown hle hF2
        go_upto_region 5 with fail
        go_region_held3 (fun w' => w'.cell? ⟨w.heap.size, 0, none⟩ = some (.int .i64 s) ∧ w'.cell? ⟨w.heap.size, 1, none⟩ = some (.int .i64 n) ∧ w'.cell? ⟨w.heap.size, 2, none⟩ = some (.int .i64 d) ∧ Below wr.heap.size wr w')
          (first | with_reducible exact hd3_drew HS.out | with_reducible exact H3.out | with_reducible exact H4.out)
          (first
            | (go_at_call 49; have _g := H3; refine (refChirpAt_c s n d _ _ q1 q2 q3 q4 q5 q6 (by omega) (by omega)).mono ?_; rintro e w4 ⟨rfl, hb4⟩; have H4 := hide (hd3_bel H3.out hb4 H3.out.2.2.2.size))
            | (go_at_call 49; refine (refChirpAt_c s n d _ _ q1 q2 q3 q4 q5 q6 (by omega) (by omega)).mono ?_; rintro e w3 ⟨rfl, hb3⟩; have H3 := hide (hd3_bel (hd3_drew HS.out) hb3 (by simp))))
        rw [HFK.out, HFK1.out]
        have hown4 := ownsRow_bel hown H4.out.2.2.2
        have hb4' : Below V.heap.size V w4 := tr hbr H4.out.2.2.2 hbr.size
        clear H3 hb3 hb4
        go_wp2
        go_roundw
        case rel => exact ⟨k + 1, by omega, by omega, by go_num, hb4', by rw [hF2.out]; exact hown4⟩
        case measure => simp [intOf]; omega
    · have hcap := hide (risesL_cap s n d count k hk1 (by omega) hk2)
      obtain ⟨A, c, rfl⟩ := ownsRow_slice hown
      go_wp2
      go_ret
      refine ⟨⟨A, c, by rw [← hcap.out]; rfl, ?_⟩, tr hwV hbr hwV.size⟩
      rw [← hcap.out]
      exact RdT.of_own hown

theorem waveL_length (s n d : Int) (k : Nat) : (waveL s n d k).length = k := by simp [waveL]
theorem waveL_succ (s n d : Int) (k : Nat) : waveL s n d (k + 1) = waveL s n d k ++ [turnG (phaseN s n d k)] := by simp [waveL, List.range_succ]

theorem refChirpWave_c (s n d : Int) (count : Nat) (w : World) (hE : chirpE s n d = 0) (hc : count ≤ 1000) :
    Calls Tryd.prog 51 #[.agg #[.int .i64 s, .int .i64 n, .int .i64 d], .int .i64 count] w fun r w' =>
      (∃ A c, r = .returned (.slice A (waveL s n d count).length c) ∧ RdT w' 76 A (gs (waveL s n d count))) ∧ Below w.heap.size w w' := by
  obtain ⟨i0, hi, iz0, iz1, iz2⟩ := info_parts Tryd.info76
  obtain ⟨q1, q2, q3, q4, q5, q6⟩ := chirpE_zero hE
  have HC := hide hE
  clear hE
  have hXV : Blk (w.alloc (.cells #[.int .i64 s, .int .i64 n, .int .i64 d] 64)) w.heap.size 64 [.int .i64 s, .int .i64 n, .int .i64 d] := Blk.new w _ [_, _, _]
  have hwV : Below w.heap.size w (w.alloc (.cells #[.int .i64 s, .int .i64 n, .int .i64 d] 64)) := (Below.refl _ _).alloc (Nat.le_refl _) _
  go_enter Tryd.func51, Tryd.ntmps51
  go_wp2
  obtain ⟨V, hV⟩ : ∃ V, w.alloc (.cells #[.int .i64 s, .int .i64 n, .int .i64 d] 64) = V := ⟨_, rfl⟩
  rw [hV] at hXV hwV ⊢
  clear hV
  have hzV := hXV.lt
  go_loopw [5, 6, 7] (fun ph v i wr => ∃ k : Nat, k ≤ count ∧ i = .int .i64 k ∧ ph = .int .i64 (sumN s n d k) ∧ Below V.heap.size V wr ∧ wr.ownsRow V.heap.size 76 2 v k (gs (waveL s n d k))) (fun _ _ i _ => count - (intOf i).toNat)
  case atStart => exact ⟨0, Nat.zero_le _, rfl, rfl, Below.refl _ _, World.ownsRow_nil _ _ _ _⟩
  case round =>
    obtain ⟨k, hk, rfl, rfl, hbr, hown⟩ := hrel
    by_cases hlt : k < count
    · have hXr := hXV.below hbr hzV
      obtain ⟨b1, b2⟩ := sumN_bd HC.out k (by omega)
      obtain ⟨f1, f2⟩ := freq_bd (t := k) HC.out (by omega) (by omega)
      have HSUM : Hid (sumN s n d (k + 1) = sumN s n d k + freq s n d k) := rfl
      have HW : Hid (waveL s n d (k + 1) = waveL s n d k ++ [turnG (sumN s n d k % 4).toNat]) := by rw [sumN_phase]; exact waveL_succ s n d k
      generalize sumN s n d k = ph at b1 b2 HSUM HW
      have HT := hide (fun W => refTurn_c ph W (by omega) (by omega))
      generalize turnG (ph % 4).toNat = tg at HW HT
      generalize waveL s n d k = L at hown HW
      go_wp2_with (first
        | (go_at_call 53; refine (HT.out _).mono ?_; rintro e w3 ⟨rfl, hb3⟩; have hown3 := ownsRow_bel hown hb3; have hX3 := hXr.bel hb3)
        | (at_builtin; refine wpList_append_own _ rfl _ _ 30 rfl V.heap.size 76 i0 _ 2 16 Tryd.underlying30 hi iz0 iz1 iz2 rfl (by decide) _ _ _ rfl (hown3.alloc _) ⟨w3.heap.size, 0, none⟩ 1 1 [.int .i64 tg.1, .int .i64 tg.2] rfl rfl (World.news_of_block (heap_alloc_new w3 _)) (by simp [Value.oneCell']) (by unfold maxLen; omega) (by omega) (by have := hb3.size; have := hbr.size; simp; omega) ?_; intro v' w5 hown5 hg5 _; have hb5 : Below V.heap.size V w5 := ((tr hbr hb3 hbr.size).alloc (by have := hb3.size; have := hbr.size; omega) _).grown hg5 (by have := hb3.size; have := hbr.size; simp; omega) (fun j hj => (hown3.lt j hj).1); have hX5 := hXV.below hb5 hzV; have c0 := hX5.cell 0; have c1 := hX5.cell 1; have c2 := hX5.cell 2; simp only [List.getElem?_cons_zero, List.getElem?_cons_succ] at c0 c1 c2)
        | (go_at_call 49; refine (refChirpAt_c s n d _ _ q1 q2 q3 q4 q5 q6 (by omega) (by omega)).mono ?_; rintro e w6 ⟨rfl, hb6⟩))
      have hown6 := ownsRow_bel hown5 hb6
      have hb6' : Below V.heap.size V w6 := tr hb5 hb6 hb5.size
      go_roundw
      case rel => exact ⟨k + 1, by omega, by go_num, by rw [HSUM.out], hb6', by rw [HW.out, gs_append]; exact hown6⟩
      case measure => simp [intOf]; omega
    · obtain rfl : k = count := by omega
      obtain ⟨A, c, rfl⟩ := ownsRow_slice hown
      go_wp2
      go_ret
      exact ⟨⟨A, c, by rw [waveL_length]; rfl, RdT.of_own hown⟩, tr hwV hbr hwV.size⟩
end Go.Proofs.YthkmeaibppkhmaaDoor

/- Contracts: the wave of a code as the reference makes it. -/
namespace Go.Proofs.YthkmeaibppkhmaaDoor
open Go.RowKit
set_option maxRecDepth 100000

theorem reL_length (l : List Int) : (reL l).length = l.length := by simp [reL]

theorem refWaveOf_c (l : List Int) (A : Option Addr) (c : Nat) (w : World) (hr : Rd w A (ints l)) (hl : l.length ≤ 1000) :
    Calls Tryd.prog 25 #[.slice A l.length c] w fun r w' => (∃ A' c', r = .returned (.slice A' (reL l).length c') ∧ RdT w' 76 A' (gs (reL l))) ∧ Below w.heap.size w w' := by
  obtain ⟨i0, hi, iz0, iz1, iz2⟩ := info_parts Tryd.info76
  go_enter Tryd.func25, Tryd.ntmps25
  go_wp2
  go_loopw [3, 4] (fun v i wr => ∃ k : Nat, k ≤ l.length ∧ i = .int .i64 k ∧ Below w.heap.size w wr ∧ wr.ownsRow w.heap.size 76 2 v k (gs (reL (l.take k)))) (fun _ i _ => l.length - (intOf i).toNat)
  case atStart => exact ⟨0, Nat.zero_le _, rfl, Below.refl _ _, World.ownsRow_nil _ _ _ _⟩
  case round =>
    obtain ⟨k, hk, rfl, hbr, hown⟩ := hrel
    by_cases hlt : k < l.length
    · obtain ⟨b, off, rfl, hbl, z0⟩ := (hr.bel hbr).int_at hlt
      have HW : Hid (reL (l.take (k + 1)) = reL (l.take k) ++ [(l[k], 0)]) := by
        show _ = _
        rw [List.take_succ_eq_append_getElem hlt]
        exact List.map_append
      generalize l[k] = x at z0 HW
      generalize reL (l.take k) = L at hown HW
      go_wp2_with (first
        | (at_builtin; refine wpList_append_own _ rfl _ _ 30 rfl w.heap.size 76 i0 _ 2 16 Tryd.underlying30 hi iz0 iz1 iz2 rfl (by decide) _ _ _ rfl (hown.alloc _) ⟨wr.heap.size, 0, none⟩ 1 1 [.int .i64 x, .int .i64 0] rfl rfl (World.news_of_block (heap_alloc_new wr _)) (by simp [Value.oneCell']) (by unfold maxLen; omega) (by omega) (by have := hbr.size; simp; omega) ?_; intro v' w5 hown5 hg5 _))
      have hb5 : Below w.heap.size w w5 := (hbr.alloc hbr.size _).grown hg5 (by have := hbr.size; simp; omega) (fun j hj => (hown.lt j hj).1)
      go_roundw
      case rel => exact ⟨k + 1, by omega, by go_num, hb5, by rw [HW.out, gs_append]; exact hown5⟩
      case measure => simp [intOf]; omega
    · obtain rfl : k = l.length := by omega
      obtain ⟨A', c', rfl⟩ := ownsRow_slice hown
      rw [List.take_of_length_le (Nat.le_refl _)] at hown
      go_wp2
      go_ret
      exact ⟨⟨A', c', by rw [reL_length]; rfl, RdT.of_own hown⟩, hbr⟩
end Go.Proofs.YthkmeaibppkhmaaDoor

