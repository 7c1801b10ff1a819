/- Contracts: frames that are computed together. -/
import Derived.Test.YtmedjedmeggbpaaDoorW20
namespace Go.Proofs.YtmedjedmeggbpaaDoor
open Go.RowKit
set_option maxRecDepth 100000

theorem flat_at {k : Nat} : ∀ {rows : List (List Value)}, (∀ r ∈ rows, r.length = k) → ∀ (i : Nat) (h : i < rows.length) (j : Nat), j < k → rows.flatten[i * k + j]? = rows[i][j]?
  | [], _, _, h, _, _ => absurd h (Nat.not_lt_zero _)
  | r :: rs, hr, 0, _, j, hj => by
    have := hr r (by simp)
    rw [List.flatten_cons, Nat.zero_mul, Nat.zero_add, List.getElem?_append_left (by omega)]
    rfl
  | r :: rs, hr, i + 1, h, j, hj => by
    have h1 := hr r (by simp)
    rw [List.flatten_cons, show (i + 1) * k + j = k + (i * k + j) from by rw [Nat.add_mul]; omega, List.getElem?_append_right (by omega), h1, show k + (i * k + j) - k = i * k + j from by omega]
    exact flat_at (fun r' h' => hr r' (by simp [h'])) i (by simpa using h) j hj

theorem flat_set5 (a b c d e : Value) : ∀ {rows : List (List Value)}, (∀ r ∈ rows, r.length = 5) → ∀ i, i < rows.length →
    (((((rows.flatten).set (i * 5) a).set (i * 5 + 1) b).set (i * 5 + 2) c).set (i * 5 + 3) d).set (i * 5 + 4) e = (rows.set i [a, b, c, d, e]).flatten
  | [], _, _, h => absurd h (Nat.not_lt_zero _)
  | r :: rs, hr, i, h => by
    have h1 := hr r (by simp)
    obtain ⟨x0, x1, x2, x3, x4, rfl⟩ : ∃ x0 x1 x2 x3 x4, r = [x0, x1, x2, x3, x4] := by
      match r, h1 with
      | [x0, x1, x2, x3, x4], _ => exact ⟨x0, x1, x2, x3, x4, rfl⟩
    cases i with
    | zero => rfl
    | succ i =>
      have ih := flat_set5 a b c d e (rows := rs) (fun r' h' => hr r' (by simp [h'])) i (by simpa using h)
      rw [List.set_cons_succ, List.flatten_cons, List.flatten_cons, ← ih, show (i + 1) * 5 = i * 5 + 1 + 1 + 1 + 1 + 1 from by omega,
        show i * 5 + 1 + 1 + 1 + 1 + 1 + 1 = (i * 5 + 1) + 1 + 1 + 1 + 1 + 1 from by omega, show i * 5 + 1 + 1 + 1 + 1 + 1 + 2 = (i * 5 + 2) + 1 + 1 + 1 + 1 + 1 from by omega,
        show i * 5 + 1 + 1 + 1 + 1 + 1 + 3 = (i * 5 + 3) + 1 + 1 + 1 + 1 + 1 from by omega, show i * 5 + 1 + 1 + 1 + 1 + 1 + 4 = (i * 5 + 4) + 1 + 1 + 1 + 1 + 1 from by omega]
      rfl

/-- A frame as it lies in memory. -/
structure Fr where
  gain : Int
  limit : Int
  A : Option Addr
  cA : Nat
  samples : List (Int × Int)
  G : Option Addr
  cG : Nat
  gaps : List Int
def Fr.row (f : Fr) : List Value := [.int .i64 f.gain, .int .i64 f.limit, .slice f.A f.samples.length f.cA, .slice f.G f.gaps.length f.cG]
def Fr.err (f : Fr) : Int := (frameE f.gain f.limit f.samples f.gaps).2
def Fr.ok (w : World) (f : Fr) : Prop := Rd w f.A (gs f.samples) ∧ Rd w f.G (ints f.gaps) ∧ f.samples.length ≤ 1000 ∧ f.gaps.length ≤ 1000
theorem Fr.ok.bel {w w' : World} {f : Fr} (h : f.ok w) (hb : Below w.heap.size w w') : f.ok w' := ⟨h.1.bel hb, h.2.1.bel hb, h.2.2⟩
/-- A checked frame as it lies in memory. -/
def Fr.row5 (x : Fr × Option Addr × Nat) : List Value := [.int .i64 x.1.gain, .int .i64 x.1.limit, .slice x.1.A x.1.samples.length x.1.cA, .slice x.1.G x.1.gaps.length x.1.cG, .slice x.2.1 x.1.samples.length x.2.2]
def Fr.ok5 (w : World) (x : Fr × Option Addr × Nat) : Prop := x.1.err = 0 ∧ RdT w 4 x.2.1 (bls (usableL x.1.limit x.1.samples x.1.gaps))
def zero5 : List Value := [.int .i64 0, .int .i64 0, .slice none 0 0, .slice none 0 0, .slice none 0 0]
def framesE (l : List Fr) : Int := if lenE l.length 4 = 0 then firstE (l.map Fr.err) else lenE l.length 4

theorem Tryd.info158 : (Tryd.prog.info? 158).map (fun i => (i.zero, i.size, i.bytes)) = some (some (.agg #[.int .i64 0, .int .i64 0, .slice none 0 0, .slice none 0 0, .slice none 0 0]), 5, 88) := by kernel_rfl
theorem madeCells_5 (n : Nat) : (madeCells (Value.agg #[.int .i64 0, .int .i64 0, .slice none 0 0, .slice none 0 0, .slice none 0 0]).cells (n * 5)).toList = (List.replicate n zero5).flatten := by
  rw [show (Value.agg #[.int .i64 0, .int .i64 0, .slice none 0 0, .slice none 0 0, .slice none 0 0]).cells = #[.int .i64 0, .int .i64 0, .slice none 0 0, .slice none 0 0, .slice none 0 0] from rfl]
  refine List.ext_getElem? fun i => ?_
  by_cases hi : i < n * 5
  · obtain ⟨q, r, hr, rfl⟩ : ∃ q r, r < 5 ∧ i = q * 5 + r := ⟨i / 5, i % 5, Nat.mod_lt _ (by omega), by omega⟩
    rw [flat_at (k := 5) (fun r h => by rw [List.eq_of_mem_replicate h]; rfl) q (by simp; omega) r hr, List.getElem_replicate]
    have e : r = 0 ∨ r = 1 ∨ r = 2 ∨ r = 3 ∨ r = 4 := by omega
    rcases e with rfl | rfl | rfl | rfl | rfl <;> simp [madeCells, zero5, hi, Nat.mul_add_mod_self_right] <;> exact ⟨q * 5, by rw [List.getElem?_range (by omega)], by simp⟩
  · rw [List.getElem?_eq_none (by simp [madeCells]; omega), List.getElem?_eq_none]
    simp [List.length_flatten, zero5]
    omega

theorem Rd.fr_at {w : World} {F : Option Addr} {l : List Fr} (h : Rd w F (l.map Fr.row).flatten) {k : Nat} (hk : k < l.length) : ∃ b off, F = some ⟨b, off, none⟩ ∧ b < w.heap.size ∧ w.cell? ⟨b, off + k * 4, none⟩ = some (.int .i64 l[k].gain) ∧ w.cell? ⟨b, off + k * 4 + 1, none⟩ = some (.int .i64 l[k].limit) ∧
    w.cell? ⟨b, off + k * 4 + 2, none⟩ = some (.slice l[k].A l[k].samples.length l[k].cA) ∧ w.cell? ⟨b, off + k * 4 + 3, none⟩ = some (.slice l[k].G l[k].gaps.length l[k].cG) := by
  have hf : ∀ r ∈ l.map Fr.row, r.length = 4 := fun r h => by obtain ⟨f, _, rfl⟩ := List.mem_map.1 h; rfl
  have hm : k < (l.map Fr.row).length := by simpa using hk
  have g0 := flat_at hf k hm 0 (by omega)
  have g1 := flat_at hf k hm 1 (by omega)
  have g2 := flat_at hf k hm 2 (by omega)
  have g3 := flat_at hf k hm 3 (by omega)
  simp only [List.getElem_map, Fr.row, List.getElem?_cons_zero, List.getElem?_cons_succ] at g0 g1 g2 g3
  obtain ⟨b, off, rfl, hlt, hc⟩ := h (by intro e; rw [e] at g0; simp at g0)
  exact ⟨b, off, rfl, hlt, hc _ _ g0, hc _ _ g1, hc _ _ g2, hc _ _ g3⟩

theorem Blk.keepT_set5 {w : World} {g : Nat} {e t : TypeId} {cs : List Value} (h : Blk w g e cs) (hte : t ≠ e) (i0 i1 i2 i3 i4 : Nat) (a b c d f : Value) :
    KeepT t w (((((w.setCell ⟨g, i0, none⟩ a).setCell ⟨g, i1, none⟩ b).setCell ⟨g, i2, none⟩ c).setCell ⟨g, i3, none⟩ d).setCell ⟨g, i4, none⟩ f) :=
  ((((KeepT.setCell h hte _ _).trans (KeepT.setCell (h.set_ i0 a) hte _ _)).trans (KeepT.setCell ((h.set_ i0 a).set_ i1 b) hte _ _)).trans (KeepT.setCell (((h.set_ i0 a).set_ i1 b).set_ i2 c) hte _ _)).trans (KeepT.setCell ((((h.set_ i0 a).set_ i1 b).set_ i2 c).set_ i3 d) hte _ _)

theorem checkedFrames_c (l : List Fr) (F : Option Addr) (c : Nat) (w : World) (hr : Rd w F (l.map Fr.row).flatten) (hok : ∀ f ∈ l, f.ok w) (hl : l.length ≤ 1000) :
    Calls Tryd.prog 129 #[.slice F l.length c] w fun r w' =>
      ((framesE l ≠ 0 ∧ r = .returned (.tuple #[.slice none 0 0, .int .i64 (framesE l)])) ∨
        (framesE l = 0 ∧ ∃ (g : Nat) (xs : List (Fr × Option Addr × Nat)), r = .returned (.tuple #[.slice (some ⟨g, 0, none⟩) l.length l.length, .int .i64 0]) ∧ xs.map Prod.fst = l ∧ Blk w' g 158 (xs.map Fr.row5).flatten ∧ ∀ x ∈ xs, Fr.ok5 w' x)) ∧ Below w.heap.size w w' := by
  obtain ⟨i0, hi, iz0, iz1, iz2⟩ := info_parts Tryd.info158
  have hmk : ∀ W, (Instr.makeSlice 172 (.int .i64 (l.length : Int)) (.int .i64 (l.length : Int))).run Tryd.prog W = .ok (.slice (some ⟨W.heap.size, 0, none⟩) l.length l.length) (W.alloc (.cells (List.replicate l.length zero5).flatten.toArray 158)) := fun W => by
    have h1 := run_make_rowN (P := Tryd.prog) 172 158 i0 _ Tryd.underlying172 hi iz0 .i64 .i64 l.length l.length (Nat.le_refl _) (by rw [iz2]; omega) (by omega) W
    have h2 := madeCells_5 l.length
    rw [iz1] at h1
    rw [h1]
    congr 3
    rw [← h2]
  by_cases h0 : lenE l.length 4 = 0
  · have e1 : (lenE l.length 4 != 0) = false := by simpa using h0
    have HF : Hid (framesE l = firstE (l.map Fr.err)) := by show framesE l = _; unfold framesE; rw [if_pos h0]
    have HOK := hide hok
    clear h0 hok
    go_enter Tryd.func129, Tryd.ntmps129
    go_upto_region 6 with (first | (go_at_call 97; refine (lengthError_c _ _ _).mono ?_; rintro e w1 ⟨rfl, hb1⟩))
    generalize hW : w1.alloc (.cells (List.replicate l.length zero5).flatten.toArray 158) = W
    have hBW : Below w1.heap.size w1 W := by rw [← hW]; exact (Below.refl _ _).alloc (Nat.le_refl _) _
    have hGW : Blk W w1.heap.size 158 (List.replicate l.length zero5).flatten := by rw [← hW]; exact Blk.new w1 _ _
    clear hW
    obtain ⟨g, hg⟩ : ∃ g, w1.heap.size = g := ⟨_, rfl⟩
    have hgw : w.heap.size ≤ g := by have := hb1.size; omega
    rw [hg] at hGW hBW ⊢
    go_wp2
    go_loopw [21] (fun i wr => ∃ k : Nat, k ≤ l.length ∧ i = .int .i64 k ∧ Hid (firstE ((l.map Fr.err).take k) = 0) ∧ Below g w1 wr ∧ ∃ xs : List (Fr × Option Addr × Nat), Hid (xs.map Prod.fst = l.take k) ∧ Blk wr g 158 (xs.map Fr.row5 ++ List.replicate (l.length - k) zero5).flatten ∧ Hid (∀ x ∈ xs, Fr.ok5 wr x)) (fun i _ => l.length - (intOf i).toNat)
    case atStart => exact ⟨0, Nat.zero_le _, rfl, rfl, hBW, [], rfl, by simpa using hGW, fun x h => absurd h (by simp)⟩
    case round =>
      obtain ⟨k, hk, rfl, he0, hbr, xs, hxs, hGr, hx5⟩ := hrel
      have hbw : Below w.heap.size w wr := tr hb1 hbr hgw
      by_cases hlt : k < l.length
      · obtain ⟨b, off, rfl, hbl, z0, z1, z2, z3⟩ := (hr.bel hbw).fr_at hlt
        have hfo := (HOK.out _ (List.getElem_mem hlt)).bel hbw
        have hErr : Hid (firstE ((l.map Fr.err).take (k + 1)) = (l[k]).err) := by
          have := firstE_take_succ (l.map Fr.err) k (by simpa using hlt) he0.out
          rw [List.getElem_map] at this
          exact this
        have hTk : Hid (l.take (k + 1) = l.take k ++ [l[k]]) := List.take_succ_eq_append_getElem hlt
        generalize l[k] = f at z0 z1 z2 z3 hfo hErr hTk
        obtain ⟨fg, fl, fA, fcA, fs, fG, fcG, fgaps⟩ := f
        obtain ⟨o1, o2, o3, o4⟩ := hfo
        dsimp only at z0 z1 z2 z3 o1 o2 o3 o4
        have HO1 := hide o1
        have HO2 := hide o2
        clear o1 o2
        have hbrl : b < wr.heap.size := hbl
        by_cases hf0 : (frameE fg fl fs fgaps).2 = 0
        · have hz0 : (frameE fg fl fs fgaps).2 = 0 := hf0
          have HE1 : Hid (firstE ((l.map Fr.err).take (k + 1)) = 0) := hErr.out.trans hf0
          clear hf0
          have hgl : g < wr.heap.size := hGr.lt
          go_upto_region 9 with (first | (go_at_call 114; refine (checked_okT fg fl fA fG fcA fcG fs fgaps _ (HO1.out.bel ((Below.refl _ _).alloc (Nat.le_refl _) _)) (HO2.out.bel ((Below.refl _ _).alloc (Nat.le_refl _) _)) o3 o4 hz0).mono ?_; rintro e w3 ⟨⟨U, cU, rfl, hU⟩, hb3⟩))
          have hs1 := hbw.size
          generalize hV : w3.alloc (.cells #[.int .i64 fg, .int .i64 fl, .slice fA fs.length fcA, .slice fG fgaps.length fcG, .slice U fs.length cU] 158) = V
          have hbrV : Below wr.heap.size wr V := by
            rw [← hV]
            have h1 : Below wr.heap.size wr w3 := tr ((Below.refl wr.heap.size wr).alloc (Nat.le_refl _) _) hb3 (by simp)
            exact h1.alloc h1.size _
          have hUV : RdT V 4 U (bls (usableL fl fs fgaps)) := by rw [← hV]; exact hU.bel ((Below.refl _ _).alloc (Nat.le_refl _) _)
          have hXV : Blk V w3.heap.size 158 [.int .i64 fg, .int .i64 fl, .slice fA fs.length fcA, .slice fG fgaps.length fcG, .slice U fs.length cU] := by rw [← hV]; exact Blk.new w3 _ [_, _, _, _, _]
          clear hV
          have hGV := hGr.bel hbrV
          have hlen : xs.length = k := by have := congrArg List.length hxs.out; simpa [Nat.min_eq_left hk] using this
          have hrows : ∀ r ∈ xs.map Fr.row5 ++ List.replicate (l.length - k) zero5, r.length = 5 := fun r h => by
            rcases List.mem_append.1 h with h | h
            · obtain ⟨x, _, rfl⟩ := List.mem_map.1 h; rfl
            · rw [List.eq_of_mem_replicate h]; rfl
          have hki : k < (xs.map Fr.row5 ++ List.replicate (l.length - k) zero5).length := by simp [hlen]; omega
          have hrk : (xs.map Fr.row5 ++ List.replicate (l.length - k) zero5)[k] = zero5 := by
            rw [List.getElem_append_right (by simp [hlen])]; simp
          have y : ∀ j, j < 5 → V.cell? ⟨g, k * 5 + j, none⟩ = zero5[j]? := fun j hj => by
            rw [hGV.cell, flat_at hrows k hki j hj, hrk]
          have y0 := y 0 (by omega)
          have y1 := y 1 (by omega)
          have y2 := y 2 (by omega)
          have y3 := y 3 (by omega)
          have y4 := y 4 (by omega)
          simp only [zero5, List.getElem?_cons_zero, List.getElem?_cons_succ, Nat.add_zero] at y0 y1 y2 y3 y4
          have q0 := hGV.frozen (k * 5)
          have q1 := hGV.frozen (k * 5 + 1)
          have q2 := hGV.frozen (k * 5 + 2)
          have q3 := hGV.frozen (k * 5 + 3)
          have q4 := hGV.frozen (k * 5 + 4)
          have u0 := hXV.cell 0
          have u1 := hXV.cell 1
          have u2 := hXV.cell 2
          have u3 := hXV.cell 3
          have u4 := hXV.cell 4
          simp only [List.getElem?_cons_zero, List.getElem?_cons_succ] at u0 u1 u2 u3 u4
          have HSET := hide (flat_set5 (.int .i64 fg) (.int .i64 fl) (.slice fA fs.length fcA) (.slice fG fgaps.length fcG) (.slice U fs.length cU) hrows k hki)
          have HGV := hide hGV
          have HUV := hide hUV
          have HBV := hide hbrV
          clear hGV hUV hbrV y hrk hrows hki hXV hU z0 z1 z2 z3
          go_wp2
          go_roundw
          case rel =>
            have hKT := (KeepT.bel (t := 4) HBV.out).trans (HGV.out.keepT_set5 (t := 4) (by decide) (k * 5) (k * 5 + 1) (k * 5 + 2) (k * 5 + 3) (k * 5 + 4) (.int .i64 fg) (.int .i64 fl) (.slice fA fs.length fcA) (.slice fG fgaps.length fcG) (.slice U fs.length cU))
            have hKU := HUV.out.keep (HGV.out.keepT_set5 (t := 4) (by decide) (k * 5) (k * 5 + 1) (k * 5 + 2) (k * 5 + 3) (k * 5 + 4) (.int .i64 fg) (.int .i64 fl) (.slice fA fs.length fcA) (.slice fG fgaps.length fcG) (.slice U fs.length cU))
            have hb5 : Below g w1 V := hbr.trans (HBV.out.mono (by omega))
            refine ⟨k + 1, by omega, by go_num, HE1.out, ((((hb5.setCell (Nat.le_refl _) _).setCell (Nat.le_refl _) _).setCell (Nat.le_refl _) _).setCell (Nat.le_refl _) _).setCell (Nat.le_refl _) _,
              xs ++ [(⟨fg, fl, fA, fcA, fs, fG, fcG, fgaps⟩, U, cU)], ?_, ?_, ?_⟩
            · show _ = _
              rw [List.map_append, hxs.out, hTk.out]; rfl
            · have h1 := ((((HGV.out.set_ (k * 5) (.int .i64 fg)).set_ (k * 5 + 1) (.int .i64 fl)).set_ (k * 5 + 2) (.slice fA fs.length fcA)).set_ (k * 5 + 3) (.slice fG fgaps.length fcG)).set_ (k * 5 + 4) (.slice U fs.length cU)
              rw [HSET.out] at h1
              have e3 : l.length - k = (l.length - (k + 1)) + 1 := by omega
              rw [e3, List.replicate_succ, List.set_append_right _ _ (by simp [hlen])] at h1
              simp only [List.length_map, hlen, Nat.sub_self, List.set_cons_zero] at h1
              rw [List.map_append, List.append_assoc]
              exact h1
            · intro x hx
              rcases List.mem_append.1 hx with h | h
              · exact ⟨(hx5.out x h).1, (hx5.out x h).2.keep hKT⟩
              · rw [List.mem_singleton.1 h]
                exact ⟨hz0, hKU⟩
          case measure => simp [intOf]; omega
        · have e2 : ((frameE fg fl fs fgaps).2 != 0) = true := by simpa using hf0
          have HE : Hid (framesE l = (frameE fg fl fs fgaps).2) := by
            show framesE l = _
            rw [HF.out, firstE_of_take _ (k + 1) (by rw [hErr.out]; exact hf0), hErr.out]
            rfl
          have HN := hide hf0
          clear hf0
          go_wp2_with (first | (go_at_call 114; refine (checked_any fg fl fA fG fcA fcG fs fgaps _ (HO1.out.bel ((Below.refl _ _).alloc (Nat.le_refl _) _)) (HO2.out.bel ((Below.refl _ _).alloc (Nat.le_refl _) _)) o3 o4).mono ?_; rintro e w3 ⟨⟨a1, b1, A2, n2, c2', G2, n3, c3', U2, n4, c4', rfl⟩, hb3⟩))
          go_ret2
          have hs1 := hbw.size
          have hb4 : Below w.heap.size w w3 := tr (hbw.alloc hs1 _) hb3 (by simp; omega)
          exact ⟨.inl ⟨by rw [HE.out]; exact HN.out, by rw [HE.out]; rfl⟩, hb4.alloc hb4.size _⟩
      · obtain rfl : k = l.length := by omega
        go_wp2
        go_ret2
        refine ⟨.inr ⟨?_, g, xs, rfl, ?_, ?_, hx5.out⟩, hbw⟩
        · rw [HF.out]; have := he0.out; rwa [List.take_of_length_le (by simp)] at this
        · rw [hxs.out, List.take_of_length_le (Nat.le_refl _)]
        · rw [Nat.sub_self, List.replicate_zero, List.append_nil] at hGr; exact hGr
  · have e1 : (lenE l.length 4 != 0) = true := by simpa using h0
    have HF : Hid (framesE l = lenE l.length 4) := by show framesE l = _; unfold framesE; rw [if_neg h0]
    have H0 := hide h0
    clear h0
    go_enter Tryd.func129, Tryd.ntmps129
    go_wp2_with (first | (go_at_call 97; refine (lengthError_c _ _ _).mono ?_; rintro e w1 ⟨rfl, hb1⟩))
    go_ret2
    exact ⟨.inl ⟨by rw [HF.out]; exact H0.out, by rw [HF.out]; rfl⟩, hb1⟩
end Go.Proofs.YtmedjedmeggbpaaDoor
