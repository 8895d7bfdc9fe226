/-
  The contracts of Live and Next, for things of ints.
-/
import Derived.Test.YtimfmflnaehmgaaLs
namespace Go.Proofs.Ytimfmflnaehmgaa
set_option linter.unusedVariables false
set_option linter.unusedSimpArgs false
set_option maxRecDepth 100000
open Go.RowKit

theorem lives_set : ∀ (R : List (List Int)) (i : Nat) (x : Int) (u r : List Int), R[i]? = some (x :: u) → lives (R.set i r) + (if r = [] then 1 else 0) = lives R
  | [], i, x, u, r, h => by simp at h
  | a :: R, 0, x, u, r, h => by
    have h : a = x :: u := by simpa using h
    subst h
    unfold lives
    cases r with
    | nil => simp
    | cons y r => simp
  | a :: R, i + 1, x, u, r, h => by
    have ih := lives_set R i x u r (by simpa using h)
    unfold lives at ih ⊢
    rw [List.set_cons_succ, List.filter_cons, List.filter_cons]
    split
    · rw [List.length_cons, List.length_cons]; omega
    · exact ih
theorem lives_le (R : List (List Int)) : lives R ≤ R.length := List.length_filter_le _ _
theorem lives_zero {R : List (List Int)} (h : lives R = 0) (i : Nat) : hlive R i = false := by
  unfold lives at h
  have h := List.eq_nil_of_length_eq_zero h
  rw [List.filter_eq_nil_iff] at h
  unfold hlive
  rw [List.getD_eq_getElem?_getD]
  rcases hq : R[i]? with _ | a
  · rfl
  · have := h a (List.mem_of_getElem? hq)
    simpa using this
theorem lives_pos {R : List (List Int)} (h : lives R ≠ 0) : ∃ i, hlive R i = true := by
  unfold lives at h
  have hne : R.filter (fun r => !r.isEmpty) ≠ [] := fun e => h (by rw [e]; rfl)
  obtain ⟨a, ha⟩ := List.exists_mem_of_ne_nil _ hne
  rw [List.mem_filter] at ha
  obtain ⟨i, hi⟩ := List.mem_iff_getElem?.1 ha.1
  refine ⟨i, ?_⟩
  unfold hlive
  rw [List.getD_eq_getElem?_getD, hi]
  exact ha.2
theorem hlive_cons {R : List (List Int)} {i : Nat} (h : hlive R i = true) : ∃ x u, R[i]? = some (x :: u) ∧ hkey R i = x := by
  have hi := hlive_lt h
  unfold hlive at h
  rw [List.getD_eq_getElem?_getD, List.getElem?_eq_getElem hi] at h
  rcases hq : R[i] with _ | ⟨x, u⟩
  · rw [hq] at h; simp at h
  · refine ⟨x, u, by rw [List.getElem?_eq_getElem hi, hq], ?_⟩
    unfold hkey
    rw [List.getD_eq_getElem?_getD, List.getElem?_eq_getElem hi, hq]; rfl
/-- A whole tree over sources of ints: what it has at hand, and behind it, is R. -/
structure Tree (w : World) (B : Nat) (F : Nat → Prop) (b : Nat) (ss : List Sr) (ps : List Nat) (q : Nat → Nat → Int) (N : Nat) (R : List (List Int)) : Prop where
  lay : ∃ G L, F = TF G b L ∧ LI.In w G b (ss.map Sr.v) R L ∧ (∀ m, 1 ≤ m → m < 2 * 2 ^ L.d → Rt (hkey R) (hlive R) L.d L.xs m) ∧ L.lv = lives R
  srs : Srs w N ss ps q
  ok : SrsOk B ss
  up : ∀ k, F k → B ≤ k
  rest : ∀ (i : Nat) (s : Sr) (p : Nat), ss[i]? = some s → ps[i]? = some p → (R.getD i []).tail = left_ s p
theorem Tree.lt {w : World} {B : Nat} {F : Nat → Prop} {b : Nat} {ss : List Sr} {ps : List Nat} {q : Nat → Nat → Int} {N : Nat} {R : List (List Int)} (h : Tree w B F b ss ps q N R) (k : Nat) (hk : F k) : k < w.heap.size := by
  obtain ⟨G, L, rfl, h1, _⟩ := h.lay
  exact h1.lt k hk
theorem Tree.len {w : World} {B : Nat} {F : Nat → Prop} {b : Nat} {ss : List Sr} {ps : List Nat} {q : Nat → Nat → Int} {N : Nat} {R : List (List Int)} (h : Tree w B F b ss ps q N R) : ss.length = R.length ∧ R.length ≤ 1000 ∧ B ≤ w.heap.size := by
  obtain ⟨G, L, rfl, h1, _⟩ := h.lay
  have a := h1.lens
  rw [List.length_map] at a
  exact ⟨a, Nat.le_trans h1.fit h1.small, Nat.le_trans (h.up b (Or.inl rfl)) (Nat.le_of_lt (h1.lt b (Or.inl rfl)))⟩
/-- What leaves the tree's blocks, and all below B that the sources write or read. -/
theorem Tree.keep {w w' : World} {B : Nat} {F F' : Nat → Prop} {b : Nat} {ss : List Sr} {ps : List Nat} {q : Nat → Nat → Int} {N : Nat} {R : List (List Int)} (h : Tree w B F b ss ps q N R) (k : Keep F' w w') (h1 : ∀ k, F k → ¬ F' k) (h2 : ∀ k, F' k → B ≤ k) : Tree w' B F b ss ps q N R := by
  have hl := h.len
  obtain ⟨G, L, e, a1, a2⟩ := h.lay
  refine ⟨⟨G, L, e, a1.keep k (fun x hx => h1 x (by rw [e]; exact hx)), a2⟩, h.srs.same h.ok (fun x hx => k.block x (by omega) (fun q => by have := h2 x q; omega)) k.size, h.ok, h.up, h.rest⟩
theorem Tree.below {w w' : World} {B : Nat} {F : Nat → Prop} {b : Nat} {ss : List Sr} {ps : List Nat} {q : Nat → Nat → Int} {N : Nat} {R : List (List Int)} (h : Tree w B F b ss ps q N R) (k : Below w.heap.size w w') : Tree w' B F b ss ps q N R :=
  h.keep (Keep.of_below (F := fun _ => False) k) (fun _ _ q => q) (fun _ q => q.elim)
theorem live_any (w : World) (B : Nat) (F : Nat → Prop) (b : Nat) (ss : List Sr) (ps : List Nat) (q : Nat → Nat → Int) (N : Nat) (R : List (List Int)) (h : Tree w B F b ss ps q N R) :
    Calls Try.prog 10 #[.pointer (some ⟨b, 0, none⟩)] w fun e w' => e = .returned (.int .i64 ((lives R : Nat) : Int)) ∧ w = w' := by
  obtain ⟨G, L, _, h1, _, h3⟩ := h.lay
  have c3 : w.cell? ⟨b, 3, none⟩ = some (.int .i64 (L.lv : Int)) := Arr.cell h1.st 3
  rw [h3] at c3
  obtain ⟨m, hm⟩ : ∃ m, lives R = m := ⟨_, rfl⟩
  rw [hm] at c3 ⊢
  clear h h1 h3 hm
  go_enter Try.func10, Try.ntmps10
  go_wp2
  go_ret
  exact ⟨rfl, rfl⟩
theorem next_none (w : World) (B : Nat) (F : Nat → Prop) (b : Nat) (ss : List Sr) (ps : List Nat) (q : Nat → Nat → Int) (N : Nat) (R : List (List Int)) (h : Tree w B F b ss ps q N R) (hz : lives R = 0) :
    Calls Try.prog 11 #[.pointer (some ⟨b, 0, none⟩)] w fun e w' => e = .returned (.tuple #[.int .i64 0, .int .i64 (-1), .bool false]) ∧ Below w.heap.size w w' := by
  obtain ⟨G, L, _, h1, _, h3⟩ := h.lay
  have c3 : w.cell? ⟨b, 3, none⟩ = some (.int .i64 0) := by have := Arr.cell h1.st 3; rw [h3, hz] at this; exact this
  clear h h1 h3 hz
  go_enter Try.func11, Try.ntmps11
  go_wp2
  go_ret3
  exact ⟨rfl, Below.refl _ _⟩
/-- Next of a tree in which something is at hand. -/
def Nexted (w : World) (B : Nat) (F : Nat → Prop) (b : Nat) (ss : List Sr) (ps : List Nat) (q : Nat → Nat → Int) (N : Nat) (R : List (List Int)) : Ending → World → Prop := fun e w' =>
  ∃ (i : Nat) (x : Int) (u : List Int) (s : Sr) (p : Nat), Best (hkey R) (hlive R) R.length i ∧ R[i]? = some (x :: u) ∧ ss[i]? = some s ∧ ps[i]? = some p ∧ e = .returned (.tuple #[.int .i64 x, .int .i64 (i : Int), .bool true]) ∧
    ∃ F', Tree w' B F' b ss (ps.set i (min (p + 1) s.l.length)) (up q s.pg s.po) (N + 1) (R.set i u) ∧ Keep (fun k => F k ∨ Wr ss k) w w' ∧ Sub F' F w
theorem xs_set (L : Lay) (n : Nat) (e : Nd) (lv : Nat) : ({ L with lv := lv, N := L.N.set n e } : Lay).xs = L.xs.set n e.xs := by unfold Lay.xs; rw [List.map_set]
theorem xs_len (L : Lay) : L.xs.length = L.N.length := by unfold Lay.xs; rw [List.length_map]
theorem hkey_set {R : List (List Int)} {i : Nat} {u : List Int} (j : Nat) (h : j ≠ i) : hkey R j = hkey (R.set i u) j := by
  unfold hkey
  rw [List.getD_eq_getElem?_getD, List.getD_eq_getElem?_getD, List.getElem?_set_ne (Ne.symm h)]
theorem hlive_set {R : List (List Int)} {i : Nat} {u : List Int} (j : Nat) (h : j ≠ i) : hlive R j = hlive (R.set i u) j := by
  unfold hlive
  rw [List.getD_eq_getElem?_getD, List.getD_eq_getElem?_getD, List.getElem?_set_ne (Ne.symm h)]
theorem hlive_at {R : List (List Int)} {i : Nat} {u : List Int} (h : i < R.length) : hlive (R.set i u) i = !u.isEmpty := by
  unfold hlive
  rw [List.getD_eq_getElem?_getD, List.getElem?_set_self h]
  rfl
/-- Behind the new answer of source i all nodes but those above it are right. -/
theorem path_start {R : List (List Int)} {i d : Nat} {u : List Int} {xs : List (List Nat)} (hi : i < R.length) (hd : i < 2 ^ d) (hN : xs.length = 2 * 2 ^ d) (h : ∀ m, 1 ≤ m → m < 2 * 2 ^ d → Rt (hkey R) (hlive R) d xs m) :
    ∀ m, 1 ≤ m → m < 2 * 2 ^ d → (∀ j, (2 ^ d + i) / 2 / 2 ^ j ≠ m) → Rt (hkey (R.set i u)) (hlive (R.set i u)) d (xs.set (2 ^ d + i) (if u = [] then [] else [i])) m := by
  intro m h1 h2 hj
  by_cases e : m = 2 ^ d + i
  · subst e
    have := Rt.leaf (key := hkey (R.set i u)) (live := hlive (R.set i u)) hd hN
    rw [hlive_at hi] at this
    cases u with
    | nil => simpa using this
    | cons x r => simpa using this
  · refine Rt.other ((h m h1 h2).off h1 h2 (fun j hne => hkey_set j hne) (fun j hne => hlive_set j hne) (fun j hm => ?_)) e
    cases j with
    | zero => rw [Nat.pow_zero, Nat.div_one] at hm; omega
    | succ j => exact hj j (by rw [Nat.div_div_eq_div_mul, ← Nat.pow_succ']; exact hm)
/-- Nodes above node n are still to be played. -/
def PathI (B : Nat) (w wr : World) (G : Nat → Prop) (b N : Nat) (ss : List Sr) (ps : List Nat) (q : Nat → Nat → Int) (R : List (List Int)) (L : Lay) (lv : Nat) (P : Nat → Prop) : Prop :=
  ∃ G' M, LI.In wr G' b (ss.map Sr.v) R { L with lv := lv, N := M } ∧ (∀ m, 1 ≤ m → m < 2 * 2 ^ L.d → P m → Rt (hkey R) (hlive R) L.d (M.map Nd.xs) m) ∧ Srs wr N ss ps q ∧ Keep (fun k => TF G b L k ∨ Wr ss k) w wr ∧ Sub G' G w
theorem PathI.play {B : Nat} {w wr : World} {G : Nat → Prop} {b N : Nat} {ss : List Sr} {ps : List Nat} {q : Nat → Nat → Int} {R : List (List Int)} {L : Lay} {lv n : Nat} {P Q : Nat → Prop} (h : PathI B w wr G b N ss ps q R L lv P) (o : SrsOk B ss) (hB : ∀ k, TF G b L k → B ≤ k) (hBw : B ≤ w.heap.size) (h1 : 1 ≤ n) (h2 : n < 2 ^ L.d) (p1 : P (2 * n)) (p2 : P (2 * n + 1)) (hQ : ∀ m, 1 ≤ m → m < 2 * 2 ^ L.d → Q m → m ≠ n → P m) :
    Calls Try.prog 22 #[.pointer (some ⟨b, 0, none⟩), .int .i64 n] wr fun e w' => e = .returned (.tuple #[]) ∧ PathI B w w' G b N ss ps q R L lv Q := by
  obtain ⟨G', M, a1, a2, a3, a4, a5⟩ := h
  have r1 := a2 (2 * n) (by omega) (by omega) p1
  have r2 := a2 (2 * n + 1) (by omega) (by omega) p2
  have hM : (M.map Nd.xs).length = 2 * 2 ^ L.d := by rw [List.length_map]; exact a1.len
  refine (LI.play_rt G' b n (ss.map Sr.v) R { L with lv := lv, N := M } wr a1 h1 h2 r1 r2).mono ?_
  rintro e w' ⟨he, G2, A, c, b1, b2, b3⟩
  have kB : ∀ k, k = L.nb ∨ G' k → B ≤ k := fun k hk => by
    rcases hk with e | e
    · exact hB k (Or.inr (Or.inr (Or.inl e)))
    · rcases a5 k e with e | e
      · exact hB k (Or.inr (Or.inr (Or.inr (Or.inr e))))
      · omega
  refine ⟨he, G2, M.set n ⟨A, c, jn (hkey R) ((M.map Nd.xs).getD (2 * n) []) ((M.map Nd.xs).getD (2 * n + 1) [])⟩, b1, fun m m1 m2 hm => ?_, a3.same o (fun k hk => b2.block k (Nat.lt_of_lt_of_le (Nat.lt_of_lt_of_le hk hBw) a4.size) (fun e => by have := kB k e; omega)) b2.size, a4.trans (F' := fun k => k = L.nb ∨ G' k) (fun k hk => ?_) b2, fun k hk => ?_⟩
  · rw [List.map_set]
    by_cases e : m = n
    · subst e; exact Rt.join m1 h2 hM r1 r2
    · exact Rt.other (a2 m m1 m2 (hQ m m1 m2 hm e)) e
  · rcases hk with e | e
    · exact Or.inl (Or.inl (Or.inr (Or.inr (Or.inl e))))
    · rcases a5 k e with e | e
      · exact Or.inl (Or.inl (Or.inr (Or.inr (Or.inr (Or.inr e)))))
      · exact Or.inr e
  · rcases b3 k hk with e | e
    · exact a5 k e
    · exact Or.inr (Nat.le_trans a4.size e)
theorem PathI.done {B : Nat} {w wr : World} {G : Nat → Prop} {b N : Nat} {ss : List Sr} {ps : List Nat} {q : Nat → Nat → Int} {R : List (List Int)} {L : Lay} {lv : Nat} {P : Nat → Prop} (h : PathI B w wr G b N ss ps q R L lv P) (o : SrsOk B ss) (hB : ∀ k, TF G b L k → B ≤ k) (hBw : B ≤ w.heap.size) (hP : ∀ m, 1 ≤ m → P m) (hl : lv = lives R) (hr : ∀ (i : Nat) (s : Sr) (p : Nat), ss[i]? = some s → ps[i]? = some p → (R.getD i []).tail = left_ s p) :
    ∃ F', Tree wr B F' b ss ps q N R ∧ Keep (fun k => TF G b L k ∨ Wr ss k) w wr ∧ Sub F' (TF G b L) w := by
  obtain ⟨G', M, a1, a2, a3, a4, a5⟩ := h
  have sub : ∀ k, TF G' b { L with lv := lv, N := M } k → TF G b L k ∨ w.heap.size ≤ k := fun k hk => by
    rcases hk with e | e | e | e | e
    · exact Or.inl (Or.inl e)
    · exact Or.inl (Or.inr (Or.inl e))
    · exact Or.inl (Or.inr (Or.inr (Or.inl e)))
    · exact Or.inl (Or.inr (Or.inr (Or.inr (Or.inl e))))
    · rcases a5 k e with e | e
      · exact Or.inl (Or.inr (Or.inr (Or.inr (Or.inr e))))
      · exact Or.inr e
  refine ⟨TF G' b { L with lv := lv, N := M }, ⟨⟨G', { L with lv := lv, N := M }, rfl, a1, fun m m1 m2 => a2 m m1 m2 (hP m m1), hl⟩, a3, o, fun k hk => ?_, hr⟩, a4, sub⟩
  rcases sub k hk with e | e
  · exact hB k e
  · omega
set_option maxHeartbeats 4000000 in
theorem next_some (w : World) (B : Nat) (F : Nat → Prop) (b : Nat) (ss : List Sr) (ps : List Nat) (q : Nat → Nat → Int) (N : Nat) (R : List (List Int)) (h : Tree w B F b ss ps q N R) (hz : lives R ≠ 0) (hN : N ≤ 1000000000) :
    Calls Try.prog 11 #[.pointer (some ⟨b, 0, none⟩)] w (Nexted w B F b ss ps q N R) := by
  have hlens := h.len
  obtain ⟨G, L, hF, h1, h2, h3⟩ := h.lay
  have hp2 := Nat.two_pow_pos L.d
  obtain ⟨i, r, hir, hbest⟩ := (h2 1 (Nat.le_refl _) (by omega)).best (k := R.length) (fun i hi => hlive_lt hi) h1.fit (lives_pos hz)
  obtain ⟨x, u, hxu, hkx⟩ := hlive_cons hbest.2.1
  obtain ⟨e1, he1, hx1⟩ := Lay.at (L := L) (m := 1) (by have := h1.len; omega)
  have al := (h2 1 (Nat.le_refl _) (by omega)).alike
  rw [hir] at hx1 al
  have hi := hbest.1
  obtain ⟨s, hs⟩ : ∃ s, ss[i]? = some s := ⟨_, List.getElem?_eq_getElem (by omega)⟩
  obtain ⟨p, hp⟩ : ∃ p, ps[i]? = some p := ⟨_, List.getElem?_eq_getElem (by rw [h.srs.len]; omega)⟩
  have hrest := h.rest i s p hs hp
  rw [List.getD_eq_getElem?_getD, hxu] at hrest
  have hrest : u = left_ s p := hrest
  have FI := Lib.hid (LI.first_any G b i r (ss.map Sr.v) R L e1 w h1 he1 hx1.symm (fun j hj => al j i (by rw [hx1]; exact hj) (by simp)))
  have AS := Lib.hid (fun w2 (bb : Below w.heap.size w w2) => LI.ask_any G B N b i ss ps q s p R L w2 (h1.below bb) (fun k hk => h.up k (by rw [hF]; exact hk)) hs hp (h.srs.below h.ok hlens.2.2 bb) h.ok hN (by have := lives_le R; omega))
  have c3 : w.cell? ⟨b, 3, none⟩ = some (.int .i64 (L.lv : Int)) := Arr.cell h1.st 3
  have c2 : w.cell? ⟨b, 2, none⟩ = some (.slice (some ⟨L.hb, 0, none⟩) R.length R.length) := Arr.cell h1.st 2
  have ch : w.cell? ⟨L.hb, i, none⟩ = some (.int .i64 x) := by have := Arr.cell h1.hand i; rw [hvals_at hi, hkx] at this; exact this
  obtain ⟨lv, hlv⟩ : ∃ lv, L.lv = lv := ⟨_, rfl⟩
  obtain ⟨hb, hhb⟩ : ∃ x, L.hb = x := ⟨_, rfl⟩
  obtain ⟨k, hk⟩ : ∃ k, R.length = k := ⟨_, rfl⟩
  rw [hlv] at c3
  rw [hhb] at ch
  rw [hhb, hk] at c2
  have d1 : decide ((lv : Int) = 0) = false := by rw [decide_eq_false_iff_not]; omega
  have d2 : ((lv : Int) == 0) = false := by rw [beq_eq_false_iff_ne]; omega
  have i1 : (i : Int) < (k : Int) := by omega
  have hblt : b < w.heap.size := Arr.lt h1.st
  have hhlt : hb < w.heap.size := by rw [← hhb]; exact Arr.lt h1.hand
  have H := Lib.hid h; have H1 := Lib.hid h1; have H2 := Lib.hid h2; have HB := Lib.hid hbest; have HF := Lib.hid hF; have HR := Lib.hid hrest; have HXU := Lib.hid hxu; have HS := Lib.hid hs; have HP := Lib.hid hp; have H3 := Lib.hid h3
  clear h h1 h2 hbest hF hrest hxu hs hp h3 hir hx1 al he1 hlv hhb hk hkx
  go_enter Try.func11, Try.ntmps11
  go_wp2_with fail
  refine FI.out.mono ?_
  rintro e w1 ⟨rfl, b1⟩
  have z2 : w1.cell? ⟨b, 2, none⟩ = some (.slice (some ⟨hb, 0, none⟩) k k) := by rw [World.cell?_of_block (w := w) (a := ⟨b, 2, none⟩) (b1.block b hblt)]; exact c2
  have zh : w1.cell? ⟨hb, i, none⟩ = some (.int .i64 x) := by rw [World.cell?_of_block (w := w) (a := ⟨hb, i, none⟩) (b1.block hb hhlt)]; exact ch
  have B1 := Lib.hid b1
  clear b1
  go_wp2_with fail
  refine (AS.out w1 B1.out).mono ?_
  rintro e w2 ⟨rfl, G2, A2, c2', h2, s2, k2, sb2⟩
  have hlen2 : L.N.length = 2 * 2 ^ L.d := H1.out.len
  have hid : i < 2 ^ L.d := Nat.lt_of_lt_of_le hi H1.out.fit
  have PI : Hid (PathI B w w2 G b (N + 1) ss (ps.set i (min (p + 1) s.l.length)) (up q s.pg s.po) (R.set i u) L (lives (R.set i u)) (fun m => ∀ j, (2 ^ L.d + i) / 2 / 2 ^ j ≠ m)) := Lib.hid (by
    rw [← HR.out] at h2
    have hls := lives_set R i x u u HXU.out
    have e9 : L.lv - (if u = [] then 1 else 0) = lives (R.set i u) := by rw [H3.out]; omega
    rw [e9] at h2
    refine ⟨G2, _, h2, ?_, s2, (Keep.of_below (F := fun k => TF G b L k ∨ Wr ss k) B1.out).trans (Sub.refl _ _) k2, fun k hk => (sb2 k hk).imp id (fun e => Nat.le_trans B1.out.size e)⟩
    rw [List.map_set]
    exact path_start hi hid (by rw [List.length_map]; exact hlen2) H2.out)
  have BW2 : B ≤ w2.heap.size := Nat.le_trans hlens.2.2 (Nat.le_trans B1.out.size k2.size)
  have q4 : w2.cell? ⟨b, 4, none⟩ = some (.slice (some ⟨L.nb, 0, none⟩) (2 * 2 ^ L.d) (2 * 2 ^ L.d)) := Arr.cell h2.st 4
  have LF := Lib.hid (LI.leaf_any b L.nb (2 ^ L.d) i w2 q4 H1.out.small (by omega))
  obtain ⟨D, hD⟩ : ∃ D, 2 ^ L.d = D := ⟨_, rfl⟩
  have HD := Lib.hid hD
  have hDs : D ≤ 1000 := by rw [← hD]; exact H1.out.small
  rw [hD] at LF hid PI
  clear h2 s2 k2 sb2 q4 hlen2 hD hp2
  go_wp2_with fail
  refine LF.out.mono ?_
  rintro e w3 ⟨rfl, b3⟩
  have PI3 : Hid (PathI B w w3 G b (N + 1) ss (ps.set i (min (p + 1) s.l.length)) (up q s.pg s.po) (R.set i u) L (lives (R.set i u)) (fun m => ∀ j, (D + i) / 2 / 2 ^ j ≠ m)) := Lib.hid (by
    obtain ⟨G', M, a1, a2, a3, a4, a5⟩ := PI.out
    exact ⟨G', M, a1.below b3, a2, a3.below H.out.ok (Nat.le_trans hlens.2.2 a4.size) b3, a4.trans (Sub.refl _ _) (Keep.of_below b3), a5⟩)
  have t1 : (((D + i : Nat) : Int)).tdiv 2 = (((D + i) / 2 : Nat) : Int) := by rw [Int.tdiv_eq_ediv_of_nonneg (by omega)]; omega
  obtain ⟨n0, hn0⟩ : ∃ n, (D + i) / 2 = n := ⟨_, rfl⟩
  obtain ⟨m0, hm0⟩ : ∃ m, D + i = m := ⟨_, rfl⟩
  rw [hn0] at PI3 t1
  have hnD : n0 < D := by omega
  rw [hm0] at t1
  rw [hm0]
  clear b3 PI LF hn0 hm0
  go_wp2_with fail
  go_loopw [8] (fun nv wr => ∃ n : Nat, nv = .int .i64 n ∧ n < D ∧ PathI B w wr G b (N + 1) ss (ps.set i (min (p + 1) s.l.length)) (up q s.pg s.po) (R.set i u) L (lives (R.set i u)) (fun m => ∀ j, n / 2 ^ j ≠ m)) (fun nv _ => (intOf nv).toNat)
  case atStart => exact ⟨n0, rfl, hnD, PI3.out⟩
  case round =>
    obtain ⟨n, rfl, hn, hpi⟩ := hrel
    by_cases hn0 : n = 0
    · subst hn0
      have FIN : Hid (Nexted w B F b ss ps q N R (.returned (.tuple #[.int .i64 x, .int .i64 (i : Int), .bool true])) wr) := Lib.hid (by
        obtain ⟨F', t1, t2, t3⟩ := hpi.done H.out.ok (fun k hk => H.out.up k (by rw [HF.out]; exact hk)) hlens.2.2 (fun m hm j => by rw [Nat.zero_div]; omega) rfl (fun j s' p' hj hp' => by
          by_cases e : i = j
          · subst e
            rw [HS.out] at hj
            injection hj with hj
            subst hj
            have hpl := (List.getElem?_eq_some_iff.1 HP.out).1
            rw [List.getElem?_set_self hpl] at hp'
            injection hp' with hp'
            subst hp'
            rw [List.getD_eq_getElem?_getD, List.getElem?_set_self hi]
            show u.tail = _
            rw [HR.out]
            unfold left_
            rw [List.tail_drop]
            rcases Nat.lt_or_ge p s.l.length with e | e
            · rw [Nat.min_eq_left (by omega)]
            · rw [Nat.min_eq_right (by omega), List.drop_of_length_le (by omega), List.drop_of_length_le (by omega)]
          · rw [List.getElem?_set_ne e] at hp'
            rw [List.getD_eq_getElem?_getD, List.getElem?_set_ne e, ← List.getD_eq_getElem?_getD]
            exact H.out.rest j s' p' hj hp')
        exact ⟨i, x, u, s, p, HB.out, HXU.out, HS.out, HP.out, rfl, F', t1, by rw [HF.out]; exact t2, by rw [HF.out]; exact t3⟩)
      clear hpi
      go_wp2_with fail
      go_ret3
      exact FIN.out
    · have hle : ∀ j, n / 2 ^ j ≤ n := fun j => Nat.div_le_self _ _
      have hn2 : n < 2 ^ L.d := by rw [HD.out]; exact hn
      have PL := Lib.hid (hpi.play (Q := fun m => ∀ j, n / 2 / 2 ^ j ≠ m) H.out.ok (fun k hk => H.out.up k (by rw [HF.out]; exact hk)) hlens.2.2 (by omega) hn2 (fun j e => by have := hle j; omega) (fun j e => by have := hle j; omega) (fun m _ _ hm hne j hj => by
        cases j with
        | zero => rw [Nat.pow_zero, Nat.div_one] at hj; omega
        | succ j => exact hm j (by rw [Nat.div_div_eq_div_mul, ← Nat.pow_succ']; exact hj)))
      have d3 : decide (0 < n) = true := by rw [decide_eq_true_eq]; omega
      have d4 : decide ((0 : Int) < (n : Int)) = true := by rw [decide_eq_true_eq]; omega
      have t2 : ((n : Int)).tdiv 2 = ((n / 2 : Nat) : Int) := by rw [Int.tdiv_eq_ediv_of_nonneg (by omega)]; omega
      have hh : n / 2 < D := by omega
      have hm2 : n / 2 < n := by omega
      clear hpi hle hn2
      go_wp2_with fail
      refine PL.out.mono ?_
      rintro e w4 ⟨rfl, p4⟩
      have P4 := Lib.hid p4
      clear p4 PL
      go_wp2_with fail
      go_roundw
      case rel => exact ⟨n / 2, by go_num, hh, P4.out⟩
      case measure => simp [intOf]; omega
end Go.Proofs.Ytimfmflnaehmgaa
