/-
  The first source of a tree, for things of three ints.
-/
import Derived.Test.YtimfmflnaehmgaaTw
namespace Go.Proofs.Ytimfmflnaehmgaa
set_option linter.unusedVariables false
set_option linter.unusedSimpArgs false
set_option maxRecDepth 100000
open Go.RowKit

/-- play, by what its two sides should be. -/
theorem LT.play_rt (G : Nat → Prop) (b n : Nat) (fs : List Value) (R : List (List Th)) (L : Lay) (w : World) (h : LT.In w G b fs R L) (h1 : 1 ≤ n) (h2 : n < 2 ^ L.d) (r1 : Rt (tkey R) (tlive R) L.d L.xs (2 * n)) (r2 : Rt (tkey R) (tlive R) L.d L.xs (2 * n + 1)) :
    Calls Try.prog 30 #[.pointer (some ⟨b, 0, none⟩), .int .i64 n] w (PlayedT R w G b fs L n (jn (tkey R) (L.xs.getD (2 * n) []) (L.xs.getD (2 * n + 1) []))) := by
  have hN := h.len
  obtain ⟨l, hl, el⟩ := Lay.at (L := L) (m := 2 * n) (by omega)
  obtain ⟨r, hr, er⟩ := Lay.at (L := L) (m := 2 * n + 1) (by omega)
  obtain ⟨e0, he, _⟩ := Lay.at (L := L) (m := n) (by omega)
  have hsum := Rt.sum h1 h2 r1 r2
  have al := r1.alike
  have ar := r2.alike
  rw [el] at hsum al ⊢
  rw [er] at hsum ar ⊢
  have hs := h.small
  rcases hlx : l.xs with _ | ⟨x, l'⟩
  · rw [jn_nil_left]
    have := LT.play_none G b n fs R L l r e0 w h h1 h2 hl hr he (Or.inl hlx)
    rw [hlx] at this
    exact this
  rcases hry : r.xs with _ | ⟨y, r'⟩
  · rw [jn_nil_right]
    have := LT.play_none G b n fs R L l r e0 w h h1 h2 hl hr he (Or.inr hry)
    rw [hry, List.append_nil, hlx] at this
    exact this
  rw [← hlx, ← hry]
  exact LT.play_two G b n x y l' r' fs R L l r e0 w h h1 h2 hl hr he hlx hry (fun i hi => al i x hi (by rw [hlx]; simp)) (fun i hi => ar i y hi (by rw [hry]; simp)) (by omega)
/-- The closure of first. -/
theorem LT.first1_any (b hb bt bu j u g n c : Nat) (R : List (List Th)) (w : World) (h : LT.Hd w b hb R) (ct : w.cell? ⟨bt, 0, none⟩ = some (.pointer (some ⟨b, 0, none⟩))) (cu : w.cell? ⟨bu, 0, none⟩ = some (.slice (some ⟨g, 0, none⟩) (n + 1) c)) (cg : w.cell? ⟨g, 0, none⟩ = some (.int .i64 (u : Int))) (hj : j < R.length) (hu : u < R.length) (hn : n ≤ 1000) :
    Calls Try.prog 41 #[.int .i64 j, .pointer (some ⟨bt, 0, none⟩), .pointer (some ⟨bu, 0, none⟩)] w fun e w' => e = .returned (.bool (decide (tkey R j < tkey R u))) ∧ Below w.heap.size w w' := by
  have BT := Lib.hid (fun w2 (k : Below w.heap.size w w2) => LT.beats_any b hb j u R w2 (h.below k) hj hu)
  have i1 : (0 : Int) < (n : Int) + 1 := by omega
  clear h
  go_enter Try.func41, Try.ntmps41
  go_wp2_with fail
  go_still_tail 5, (by kernel_rfl)
  change wpList _ _ _ _ _ w.drew
  go_wp2_with fail
  refine (BT.out _ (Below.refl _ _).drew).mono ?_
  rintro e w2 ⟨rfl, b2⟩
  have B2 : Hid (Below w.heap.size w w2) := Lib.hid (bstep (Below.refl _ _).drew b2)
  clear b2
  go_wp2_with fail
  go_ret
  exact ⟨rfl, B2.out⟩
theorem LT.index_none (b hb bt bu u g n c m c' : Nat) (B : Option Addr) (xs : List Nat) (R : List (List Th)) (w : World) (h : LT.Hd w b hb R) (ct : w.cell? ⟨bt, 0, none⟩ = some (.pointer (some ⟨b, 0, none⟩))) (cu : w.cell? ⟨bu, 0, none⟩ = some (.slice (some ⟨g, 0, none⟩) (n + 1) c)) (cg : w.cell? ⟨g, 0, none⟩ = some (.int .i64 (u : Int))) (lt : bt < w.heap.size ∧ bu < w.heap.size ∧ g < w.heap.size) (hu : u < R.length) (hn : n ≤ 1000) (hm : m ≤ 1000) (hx : IRn w B xs) (hl : xs.length = m) (hal : ∀ i, i ∈ xs → i < R.length ∧ ¬ tkey R i < tkey R u) :
    Calls Try.prog 42 #[.slice B m c', .func (.func 41) #[] #[.pointer (some ⟨bt, 0, none⟩), .pointer (some ⟨bu, 0, none⟩)]] w fun e w' => e = .returned (.int .i64 (-1)) ∧ Below w.heap.size w w' := by
  have FC := Lib.hid (fun j w2 (hj : j < R.length) (k : Below w.heap.size w w2) => LT.first1_any b hb bt bu j u g n c R w2 (h.below k)
    (by rw [World.cell?_of_block (w := w) (a := ⟨bt, 0, none⟩) (k.block bt lt.1)]; exact ct) (by rw [World.cell?_of_block (w := w) (a := ⟨bu, 0, none⟩) (k.block bu lt.2.1)]; exact cu) (by rw [World.cell?_of_block (w := w) (a := ⟨g, 0, none⟩) (k.block g lt.2.2)]; exact cg) hj hu hn)
  have HX := Lib.hid hx; have HL := Lib.hid hl; have HA := Lib.hid hal
  clear h hx hl hal ct cu cg lt
  go_enter Try.func42, Try.ntmps42
  go_wp2_with fail
  go_loopw [8] (fun iv wr => ∃ k : Nat, k ≤ m ∧ iv = .int .i64 k ∧ Below w.heap.size w wr) (fun iv _ => m - (intOf iv).toNat)
  case atStart => exact ⟨0, Nat.zero_le _, rfl, Below.refl _ _⟩
  case round =>
    obtain ⟨k, hk, rfl, hb⟩ := hrel
    by_cases hlt : k < m
    · obtain ⟨x, hx⟩ : ∃ x, xs[k]? = some x := ⟨_, List.getElem?_eq_getElem (by rw [HL.out]; exact hlt)⟩
      obtain ⟨g1, o1, rfl, hg, z1⟩ := HX.out.below hb k x hx
      obtain ⟨hxR, hxk⟩ := HA.out x (List.mem_of_getElem? hx)
      have BT := Lib.hid (FC.out x wr hxR hb)
      have dk : decide (tkey R x < tkey R u) = false := by rw [decide_eq_false_iff_not]; omega
      rw [dk] at BT
      have B1 := Lib.hid hb
      have i1 : (k : Int) < (m : Int) := by omega
      clear hb hx hxR hxk dk
      go_wp2_with fail
      refine BT.out.mono ?_
      rintro e w2 ⟨rfl, b2⟩
      have B2 := Lib.hid (bstep B1.out b2)
      clear b2
      go_wp2_with fail
      go_roundw
      case rel => exact ⟨k + 1, by omega, by go_num, B2.out⟩
      case measure => simp [intOf]; omega
    · have i1 : decide ((k : Int) < (m : Int)) = false := by rw [decide_eq_false_iff_not]; omega
      have B1 := Lib.hid hb
      clear hb
      go_wp2_with fail
      go_ret
      exact ⟨rfl, B1.out⟩
theorem LT.contains_none (b hb bt bu u g n c m c' : Nat) (B : Option Addr) (xs : List Nat) (R : List (List Th)) (w : World) (h : LT.Hd w b hb R) (ct : w.cell? ⟨bt, 0, none⟩ = some (.pointer (some ⟨b, 0, none⟩))) (cu : w.cell? ⟨bu, 0, none⟩ = some (.slice (some ⟨g, 0, none⟩) (n + 1) c)) (cg : w.cell? ⟨g, 0, none⟩ = some (.int .i64 (u : Int))) (lt : bt < w.heap.size ∧ bu < w.heap.size ∧ g < w.heap.size) (hu : u < R.length) (hn : n ≤ 1000) (hm : m ≤ 1000) (hx : IRn w B xs) (hl : xs.length = m) (hal : ∀ i, i ∈ xs → i < R.length ∧ ¬ tkey R i < tkey R u) :
    Calls Try.prog 36 #[.slice B m c', .func (.func 41) #[] #[.pointer (some ⟨bt, 0, none⟩), .pointer (some ⟨bu, 0, none⟩)]] w fun e w' => e = .returned (.bool false) ∧ Below w.heap.size w w' := by
  have IX := Lib.hid (LT.index_none b hb bt bu u g n c m c' B xs R w h ct cu cg lt hu hn hm hx hl hal)
  clear h hx hl hal ct cu cg lt
  go_enter Try.func36, Try.ntmps36
  go_wp2_with fail
  refine IX.out.mono ?_
  rintro e w2 ⟨rfl, b2⟩
  have B2 := Lib.hid b2
  clear b2
  go_wp2_with fail
  go_ret
  exact ⟨rfl, B2.out⟩
set_option maxHeartbeats 4000000 in
/-- The first of the root's list. -/
theorem LT.first_any (G : Nat → Prop) (b i : Nat) (r : List Nat) (fs : List Value) (R : List (List Th)) (L : Lay) (e1 : Nd) (w : World) (h : LT.In w G b fs R L) (h1 : L.N[1]? = some e1) (hx : e1.xs = i :: r) (hal : ∀ j, j ∈ e1.xs → tkey R j = tkey R i) :
    Calls Try.prog 31 #[.pointer (some ⟨b, 0, none⟩)] w fun e w' => e = .returned (.int .i64 i) ∧ Below w.heap.size w w' := by
  have c4 : w.cell? ⟨b, 4, none⟩ = some (.slice (some ⟨L.nb, 0, none⟩) (2 * 2 ^ L.d) (2 * 2 ^ L.d)) := Arr.cell h.st 4
  obtain ⟨ce, _⟩ := h.nds.at h1
  have hlen := (h.ok _ _ h1).1
  have hmem := (h.ok _ _ h1).2
  have hK : 1 < 2 * 2 ^ L.d := by have := Nat.two_pow_pos L.d; omega
  obtain ⟨K, hKe⟩ : ∃ K, 2 * 2 ^ L.d = K := ⟨_, rfl⟩
  rw [hKe] at c4 hK
  obtain ⟨nb, hnb⟩ : ∃ nb, L.nb = nb := ⟨_, rfl⟩
  rw [hnb] at c4 ce
  have RL := h.nds.row _ _ h1
  obtain ⟨m, hm⟩ : ∃ m, e1.xs.length = m + 1 := ⟨r.length, by rw [hx]; rfl⟩
  obtain ⟨g, g1, g3⟩ := RL.at (by rw [ivals_len]; omega)
  have g2 : g < w.heap.size := RL.lt _ g1
  have c0 : w.cell? ⟨g, 0, none⟩ = some (.int .i64 (i : Int)) := by rw [(g3 0).2 (by rw [ivals_len]; omega), hx]; rfl
  obtain ⟨lc, hlc⟩ : ∃ c, e1.c = c := ⟨_, rfl⟩
  have lc0 : m + 1 ≤ lc := by have := RL.cap.1; rw [ivals_len, hlc] at this; omega
  rw [hm, g1, hlc] at ce
  rw [hm] at hlen
  have i0 : (1 : Int) < (K : Int) := by omega
  have s1 : (1 : Int) ≤ (m : Int) + 1 := by omega
  have s0 : (0 : Int) < (m : Int) + 1 := by omega
  have TN : Hid (r.length = m) := Lib.hid (by rw [hx] at hm; simp at hm; exact hm)
  have TI : ((lc = 1) = True ∧ Hid (IRn w (some ⟨g, 0, none⟩) r)) ∨ ((lc = 1) = False ∧ Hid (IRn w (some ⟨g, 1, none⟩) r)) := by
    by_cases hh : lc = 1
    · refine Or.inl ⟨by simp [hh], Lib.hid ?_⟩
      have : r = [] := List.eq_nil_of_length_eq_zero (by rw [TN.out]; omega)
      rw [this]; intro k i hi; simp at hi
    · refine Or.inr ⟨by simp [hh], Lib.hid ?_⟩
      have := RL.irn
      rw [hx, g1] at this
      exact this.tail
  have HM : Hid (i < R.length ∧ ∀ j, j ∈ r → j < R.length ∧ ¬ tkey R j < tkey R i) := Lib.hid ⟨hmem i (by rw [hx]; simp), fun j hj => ⟨hmem j (by rw [hx]; simp [hj]), by rw [hal j (by rw [hx]; simp [hj])]; omega⟩⟩
  have HD := Lib.hid h.hd
  have blt : b < w.heap.size := Arr.lt h.st
  have nlt : nb < w.heap.size := by rw [← hnb]; exact Arr.lt h.nds.arr
  clear h RL g3 hmem hal
  go_enter Try.func31, Try.ntmps31
  go_upto_region 1 with fail
  obtain ⟨w1, hW⟩ : ∃ W, W = w.alloc (.cells #[.pointer (some ⟨b, 0, none⟩)] 48) := ⟨_, rfl⟩
  rw [← hW]
  obtain ⟨bt, hbt⟩ : ∃ g, g = w.heap.size := ⟨_, rfl⟩
  rw [← hbt]
  have B1 := Lib.hid (show Below w.heap.size w w1 by rw [hW]; exact (Below.refl _ _).alloc (Nat.le_refl _) _)
  have T1 : Hid (Arr w1 bt 48 [.pointer (some ⟨b, 0, none⟩)]) := Lib.hid (by rw [hW, hbt]; exact Arr.new w _ [_])
  have t1 : w1.cell? ⟨bt, 0, none⟩ = some (.pointer (some ⟨b, 0, none⟩)) := Arr.cell T1.out 0
  have d4 : w1.cell? ⟨b, 4, none⟩ = some (.slice (some ⟨nb, 0, none⟩) K K) := by rw [World.cell?_of_block (w := w) (a := ⟨b, 4, none⟩) (B1.out.block b blt)]; exact c4
  have de : w1.cell? ⟨nb, 1, none⟩ = some (.slice (some ⟨g, 0, none⟩) (m + 1) lc) := by rw [World.cell?_of_block (w := w) (a := ⟨nb, 1, none⟩) (B1.out.block nb nlt)]; exact ce
  have btlt : bt < w1.heap.size := Arr.lt T1.out
  have HBT := Lib.hid hbt
  clear hW hbt
  go_upto_region 2 with fail
  obtain ⟨w2, hW⟩ : ∃ W, W = w1.alloc (.cells #[.slice (some ⟨g, 0, none⟩) (m + 1) lc] 27) := ⟨_, rfl⟩
  rw [← hW]
  obtain ⟨bu, hbu⟩ : ∃ g, g = w1.heap.size := ⟨_, rfl⟩
  rw [← hbu]
  have B2 := Lib.hid (show Below w1.heap.size w1 w2 by rw [hW]; exact (Below.refl _ _).alloc (Nat.le_refl _) _)
  have U2 : Hid (Arr w2 bu 27 [.slice (some ⟨g, 0, none⟩) (m + 1) lc]) := Lib.hid (by rw [hW, hbu]; exact Arr.new w1 _ [_])
  have u2 : w2.cell? ⟨bu, 0, none⟩ = some (.slice (some ⟨g, 0, none⟩) (m + 1) lc) := Arr.cell U2.out 0
  have t2 : w2.cell? ⟨bt, 0, none⟩ = some (.pointer (some ⟨b, 0, none⟩)) := Arr.cell (Arr.below T1.out B2.out) 0
  have BB := Lib.hid (bstep B1.out B2.out)
  have x2 : w2.cell? ⟨g, 0, none⟩ = some (.int .i64 (i : Int)) := by rw [World.cell?_of_block (w := w) (a := ⟨g, 0, none⟩) (BB.out.block g g2)]; exact c0
  have bult : bu < w2.heap.size := Arr.lt U2.out
  have glt : g < w2.heap.size := Nat.lt_of_lt_of_le g2 BB.out.size
  have btlt2 : bt < w2.heap.size := Nat.lt_of_lt_of_le btlt B2.out.size
  have HBU := Lib.hid hbu
  clear hW hbu
  rcases TI with ⟨e3, TI⟩ | ⟨e3, TI⟩
  all_goals
    have CN := Lib.hid (fun c' => LT.contains_none b L.hb bt bu i g m lc m c' _ r R w2 (HD.out.below BB.out) t2 u2 x2 ⟨btlt2, bult, glt⟩ HM.out.1 (by omega) (by omega) (TI.out.below BB.out) TN.out (fun j hj => ⟨(HM.out.2 j hj).1, by have := (HM.out.2 j hj).2; omega⟩))
    go_wp2_with fail
    go_loopw [13] (fun _ wr => wr = w2) (fun _ _ => 0)
    case atStart => rfl
    case round =>
      subst hrel
      go_wp2_with fail
      refine (CN.out _).mono ?_
      rintro e w3 ⟨rfl, b3⟩
      have u3 : w3.cell? ⟨bu, 0, none⟩ = some (.slice (some ⟨g, 0, none⟩) (m + 1) lc) := by rw [World.cell?_of_block (a := ⟨bu, 0, none⟩) (b3.block bu bult)]; exact u2
      have x3 : w3.cell? ⟨g, 0, none⟩ = some (.int .i64 (i : Int)) := by rw [World.cell?_of_block (a := ⟨g, 0, none⟩) (b3.block g glt)]; exact x2
      have B3 := Lib.hid (bstep BB.out b3)
      clear b3
      go_wp2_with fail
      go_ret
      exact ⟨rfl, B3.out⟩
end Go.Proofs.Ytimfmflnaehmgaa
