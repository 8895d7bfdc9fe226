/-
  What goes on from a node: the contract of play, for things of three ints.
-/
import Derived.Test.YtimfmflnaehmgaaTv
namespace Go.Proofs.Ytimfmflnaehmgaa
set_option linter.unusedVariables false
set_option linter.unusedSimpArgs false
set_option maxRecDepth 100000
open Go.RowKit

theorem LT.In.sib_block {w w1 : World} {G : Nat → Prop} {b n m g : Nat} {fs : List Value} {R : List (List Th)} {L : Lay} {e r : Nd} {A : Option Addr} (h : LT.In w G b fs R L) (hr : L.N[m]? = some r) (he : L.N[n]? = some e) (hne : m ≠ n) (k : Gr w w1 e.A A) (ha : r.A = some ⟨g, 0, none⟩) : w1.heap[g]? = w.heap[g]? := by
  have r0 := h.nds.row m r hr
  exact k.1.block g (r0.lt _ ha) (fun ⟨a2, ha2, q⟩ => hne (h.nds.apart m n r e _ a2 hr he ha ha2 q))
theorem LT.In.sib_cell {w w1 : World} {G : Nat → Prop} {b n m g i : Nat} {fs : List Value} {R : List (List Th)} {L : Lay} {e r : Nd} {A : Option Addr} (h : LT.In w G b fs R L) (hr : L.N[m]? = some r) (he : L.N[n]? = some e) (hne : m ≠ n) (k : Gr w w1 e.A A) (ha : r.A = some ⟨g, 0, none⟩) : w1.cell? ⟨g, i, none⟩ = w.cell? ⟨g, i, none⟩ :=
  World.cell?_of_block (h.sib_block hr he hne k ha)
theorem LT.In.hd_far {w w1 : World} {G : Nat → Prop} {b n : Nat} {fs : List Value} {R : List (List Th)} {L : Lay} {e : Nd} {A : Option Addr} (h : LT.In w G b fs R L) (he : L.N[n]? = some e) (g : Gr w w1 e.A A) : LT.Hd w1 b L.hb R := by
  have k : ∀ k, Of e.A k → k ≠ b ∧ k ≠ L.hb := fun k ⟨a, ha, q⟩ => by
    have := h.gs a.block (h.nds.own n e a he ha)
    subst q
    exact ⟨this.2.1, this.2.2.1⟩
  exact h.hd.same (g.1.block b (Arr.lt h.st) (fun q => (k b q).1 rfl)) (g.1.block L.hb (Arr.lt h.hand) (fun q => (k _ q).2 rfl)) g.1.size
/-- What node n's growth leaves as it was. -/
theorem LT.In.far {w w1 : World} {G : Nat → Prop} {b n nb k i : Nat} {fs : List Value} {R : List (List Th)} {L : Lay} {e : Nd} {A : Option Addr} (h : LT.In w G b fs R L) (hnb : L.nb = nb) (he : L.N[n]? = some e) (hk : k = b ∨ k = nb) (g : Gr w w1 e.A A) : w1.cell? ⟨k, i, none⟩ = w.cell? ⟨k, i, none⟩ := by
  subst hnb
  refine World.cell?_of_block (g.1.block k ?_ (fun ⟨a, ha, q⟩ => ?_))
  · rcases hk with rfl | rfl
    · exact Arr.lt h.st
    · exact Arr.lt h.nds.arr
  · have := h.gs a.block (h.nds.own n e a he ha)
    rcases hk with rfl | rfl <;> omega
theorem LT.In.farF {w w1 : World} {G : Nat → Prop} {b n nb i : Nat} {fs : List Value} {R : List (List Th)} {L : Lay} {e : Nd} {A : Option Addr} (h : LT.In w G b fs R L) (hnb : L.nb = nb) (he : L.N[n]? = some e) (g : Gr w w1 e.A A) : w1.frozen? ⟨nb, i, none⟩ = w.frozen? ⟨nb, i, none⟩ := by
  subst hnb
  refine World.frozen?_of_block (g.1.block _ (Arr.lt h.nds.arr) (fun ⟨a, ha, q⟩ => ?_))
  have := h.gs a.block (h.nds.own n e a he ha)
  have q : L.nb = a.block := q
  omega
theorem LT.In.sib {w w1 : World} {G : Nat → Prop} {b n m : Nat} {fs : List Value} {R : List (List Th)} {L : Lay} {e r : Nd} {A : Option Addr} (h : LT.In w G b fs R L) (hr : L.N[m]? = some r) (he : L.N[n]? = some e) (hne : m ≠ n) (g : Gr w w1 e.A A) : RowA w1 3 r.A r.c (ivals r.xs) := by
  have r0 := h.nds.row m r hr
  exact r0.same (fun a ha => g.1.block _ (r0.lt a ha) (fun ⟨a2, ha2, q⟩ => hne (h.nds.apart m n r e a a2 hr he ha ha2 q)))
set_option maxHeartbeats 4000000 in
theorem LT.play_none (G : Nat → Prop) (b n : Nat) (fs : List Value) (R : List (List Th)) (L : Lay) (l r e0 : Nd) (w : World) (h : LT.In w G b fs R L) (h1 : 1 ≤ n) (h2 : n < 2 ^ L.d) (hl : L.N[2 * n]? = some l) (hr : L.N[2 * n + 1]? = some r) (he : L.N[n]? = some e0) (hno : l.xs = [] ∨ r.xs = []) :
    Calls Try.prog 30 #[.pointer (some ⟨b, 0, none⟩), .int .i64 n] w (PlayedT R w G b fs L n (l.xs ++ r.xs)) := by
  have c4 : w.cell? ⟨b, 4, none⟩ = some (.slice (some ⟨L.nb, 0, none⟩) (2 * 2 ^ L.d) (2 * 2 ^ L.d)) := Arr.cell h.st 4
  have hsm := h.small
  obtain ⟨cl, _⟩ := h.nds.at hl
  obtain ⟨cr, _⟩ := h.nds.at hr
  obtain ⟨ce, fe⟩ := h.nds.at he
  have hll := (h.ok _ _ hl).1
  have hrl := (h.ok _ _ hr).1
  obtain ⟨K, hK⟩ : ∃ K, 2 * 2 ^ L.d = K := ⟨_, rfl⟩
  have hnK : 2 * n + 1 < K := by omega
  have hK2 : K ≤ 2000 := by omega
  obtain ⟨nb, hnb⟩ : ∃ nb, L.nb = nb := ⟨_, rfl⟩
  rw [hK, hnb] at c4
  rw [hnb] at cl cr ce fe
  obtain ⟨m2, hm2⟩ : ∃ m2, 2 * n = m2 := ⟨_, rfl⟩
  obtain ⟨m3, hm3⟩ : ∃ m3, 2 * n + 1 = m3 := ⟨_, rfl⟩
  rw [hm2] at cl
  rw [hm3] at cr
  have e1 : IntKind.i64.wrap (2 * (n : Int)) = (m2 : Int) := by rw [IntWalk.i64_in _ (by omega)]; omega
  have e2 : IntKind.i64.wrap ((m2 : Int) + 1) = (m3 : Int) := by rw [IntWalk.i64_in _ (by omega)]; omega
  have i2 : (m2 : Int) < (K : Int) := by omega
  have i3 : (m3 : Int) < (K : Int) := by omega
  have i0 : (n : Int) < (K : Int) := by omega
  obtain ⟨q, hq⟩ : ∃ q, l.xs.length = q := ⟨_, rfl⟩
  obtain ⟨p, hp⟩ : ∃ p, r.xs.length = p := ⟨_, rfl⟩
  rw [hq] at cl hll
  rw [hp] at cr hrl
  have D : decide (0 < q) = false ∨ decide (0 < q) = true ∧ decide (0 < p) = false := by
    rcases Nat.eq_zero_or_pos q with e | e
    · left; rw [decide_eq_false_iff_not]; omega
    · right
      refine ⟨by rw [decide_eq_true_eq]; omega, ?_⟩
      rw [decide_eq_false_iff_not]
      rcases hno with e2 | e2
      · rw [e2] at hq; simp at hq; omega
      · rw [e2] at hp; simp at hp; omega
  have H := Lib.hid h
  have RL := Lib.hid (h.nds.row _ _ hl)
  have RR := Lib.hid (h.nds.row _ _ hr)
  have RE := Lib.hid (h.nds.row _ _ he)
  have QL : Hid ((ivals l.xs).length = q) := Lib.hid (by rw [ivals_len]; exact hq)
  have QR : Hid ((ivals r.xs).length = p) := Lib.hid (by rw [ivals_len]; exact hp)
  clear h
  rcases D with d1 | ⟨d1, d2⟩
  all_goals
    go_enter Try.func30, Try.ntmps30
    go_wp2_with fail
    go_quiet (fail)
    go_wp2_with fail
    go_big_quiet (fail)
    go_wp2_with fail
    go_big_quiet (fail)
    go_wp2_with (at_builtin; go_loud (refine wpList_row_app cells_int rfl _ _ rfl e0.A 0 e0.c [] rfl (RowA.cut (RE.out.below (by first | exact belowN w _ | exact bstep (belowN w _) (belowN _ _) | exact bstep (bstep (belowN w _) (belowN _ _)) (belowN _ _)))) rfl l.A q l.c (ivals l.xs) rfl QL.out (RL.out.below (by first | exact belowN w _ | exact bstep (belowN w _) (belowN _ _) | exact bstep (bstep (belowN w _) (belowN _ _)) (belowN _ _))).src (ivals_one _) (by omega) ?_))
    intro A1 c1 w1 r1 k1 a1
    have G1 : Hid (Gr w w1 e0.A A1) := Lib.hid (Gr.after (by first | exact belowN w _ | exact bstep (belowN w _) (belowN _ _) | exact bstep (bstep (belowN w _) (belowN _ _)) (belowN _ _)) ⟨k1, a1⟩)
    have R1 := Lib.hid r1
    have c41 : w1.cell? ⟨b, 4, none⟩ = some (.slice (some ⟨nb, 0, none⟩) K K) := by rw [H.out.far hnb he (Or.inl rfl) G1.out]; exact c4
    have RR1 : Hid (RowA w1 3 r.A r.c (ivals r.xs)) := Lib.hid (H.out.sib hr he (by omega) G1.out)
    clear r1 k1 a1
    go_wp2_with (at_builtin; go_loud (refine wpList_row_app cells_int rfl _ _ rfl A1 q c1 (ivals l.xs) rfl R1.out QL.out r.A p r.c (ivals r.xs) rfl QR.out RR1.out.src (ivals_one _) (by omega) ?_))
    intro A2 c2 w2 r2 k2 a2
    rw [ivals_app] at r2
    have G2 : Hid (Gr w w2 e0.A A2) := Lib.hid (G1.out.trans ⟨k2, a2⟩)
    have R2 := Lib.hid r2
    have c42 : w2.cell? ⟨b, 4, none⟩ = some (.slice (some ⟨nb, 0, none⟩) K K) := by rw [H.out.far hnb he (Or.inl rfl) G2.out]; exact c4
    have n42 : w2.cell? ⟨nb, n, none⟩ = some (.slice e0.A e0.xs.length e0.c) := by rw [H.out.far hnb he (Or.inr rfl) G2.out]; exact ce
    have f42 : w2.frozen? ⟨nb, n, none⟩ = false := by rw [H.out.farF hnb he G2.out]; exact fe
    have FIN := Lib.hid (H.out.put he G2.out r2 (by
      refine ⟨by rw [List.length_append]; rcases hno with e | e <;> (rw [e]; simp; omega), fun i hi => ?_⟩
      rcases List.mem_append.1 hi with q' | q'
      · exact (H.out.ok _ _ hl).2 i q'
      · exact (H.out.ok _ _ hr).2 i q'))
    rw [List.length_append, hq, hp, hnb] at FIN
    clear r2 k2 a2
    go_wp2_with fail
    go_end0
    exact FIN.out
set_option maxHeartbeats 4000000 in
theorem LT.play_two (G : Nat → Prop) (b n x y : Nat) (l' r' : List Nat) (fs : List Value) (R : List (List Th)) (L : Lay) (l r e0 : Nd) (w : World) (h : LT.In w G b fs R L) (h1 : 1 ≤ n) (h2 : n < 2 ^ L.d) (hl : L.N[2 * n]? = some l) (hr : L.N[2 * n + 1]? = some r) (he : L.N[n]? = some e0) (hlx : l.xs = x :: l') (hry : r.xs = y :: r') (hal : ∀ i, i ∈ l.xs → tkey R i = tkey R x) (har : ∀ i, i ∈ r.xs → tkey R i = tkey R y) (hsum : l.xs.length + r.xs.length ≤ 1000) :
    Calls Try.prog 30 #[.pointer (some ⟨b, 0, none⟩), .int .i64 n] w (PlayedT R w G b fs L n (jn (tkey R) l.xs r.xs)) := by
  have c4 : w.cell? ⟨b, 4, none⟩ = some (.slice (some ⟨L.nb, 0, none⟩) (2 * 2 ^ L.d) (2 * 2 ^ L.d)) := Arr.cell h.st 4
  have hsm := h.small
  obtain ⟨cl, _⟩ := h.nds.at hl
  obtain ⟨cr, _⟩ := h.nds.at hr
  obtain ⟨ce, fe⟩ := h.nds.at he
  have hll := (h.ok _ _ hl).1
  have hrl := (h.ok _ _ hr).1
  have xR := (h.ok _ _ hl).2 x (by rw [hlx]; simp)
  have yR := (h.ok _ _ hr).2 y (by rw [hry]; simp)
  obtain ⟨K, hK⟩ : ∃ K, 2 * 2 ^ L.d = K := ⟨_, rfl⟩
  have hnK : 2 * n + 1 < K := by omega
  have hK2 : K ≤ 2000 := by omega
  obtain ⟨nb, hnb⟩ : ∃ nb, L.nb = nb := ⟨_, rfl⟩
  rw [hK, hnb] at c4
  rw [hnb] at cl cr ce fe
  obtain ⟨m2, hm2⟩ : ∃ m2, 2 * n = m2 := ⟨_, rfl⟩
  obtain ⟨m3, hm3⟩ : ∃ m3, 2 * n + 1 = m3 := ⟨_, rfl⟩
  rw [hm2] at cl
  rw [hm3] at cr
  have e1 : IntKind.i64.wrap (2 * (n : Int)) = (m2 : Int) := by rw [IntWalk.i64_in _ (by omega)]; omega
  have e2 : IntKind.i64.wrap ((m2 : Int) + 1) = (m3 : Int) := by rw [IntWalk.i64_in _ (by omega)]; omega
  have i2 : (m2 : Int) < (K : Int) := by omega
  have i3 : (m3 : Int) < (K : Int) := by omega
  have i0 : (n : Int) < (K : Int) := by omega
  obtain ⟨q, hq⟩ : ∃ q, l.xs.length = q := ⟨_, rfl⟩
  obtain ⟨p, hp⟩ : ∃ p, r.xs.length = p := ⟨_, rfl⟩
  have q0 : 0 < q := by rw [← hq, hlx]; simp
  have p0 : 0 < p := by rw [← hp, hry]; simp
  rw [hq] at cl hll
  rw [hp] at cr hrl
  have d1 : decide (0 < q) = true := by rw [decide_eq_true_eq]; exact q0
  have d2 : decide (0 < p) = true := by rw [decide_eq_true_eq]; exact p0
  have RL := h.nds.row _ _ hl
  have RR := h.nds.row _ _ hr
  have RE := Lib.hid (h.nds.row _ _ he)
  obtain ⟨q', hq'⟩ : ∃ q', q = q' + 1 := ⟨q - 1, by omega⟩
  obtain ⟨p', hp'⟩ : ∃ p', p = p' + 1 := ⟨p - 1, by omega⟩
  subst hq' hp'
  obtain ⟨lc, hlc⟩ : ∃ c, l.c = c := ⟨_, rfl⟩
  obtain ⟨rc, hrc⟩ : ∃ c, r.c = c := ⟨_, rfl⟩
  have lc0 : q' + 1 ≤ lc := by have := RL.cap.1; rw [ivals_len, hlc] at this; omega
  have rc0 : p' + 1 ≤ rc := by have := RR.cap.1; rw [ivals_len, hrc] at this; omega
  rw [hlc] at cl
  rw [hrc] at cr
  obtain ⟨gl, gl1, gl3⟩ := RL.at (by rw [ivals_len]; omega)
  obtain ⟨gr, gr1, gr3⟩ := RR.at (by rw [ivals_len]; omega)
  have gl2 : gl < w.heap.size := RL.lt _ gl1
  have gr2 : gr < w.heap.size := RR.lt _ gr1
  have xl : w.cell? ⟨gl, 0, none⟩ = some (.int .i64 (x : Int)) := by rw [(gl3 0).2 (by rw [ivals_len]; omega), hlx]; rfl
  have yr : w.cell? ⟨gr, 0, none⟩ = some (.int .i64 (y : Int)) := by rw [(gr3 0).2 (by rw [ivals_len]; omega), hry]; rfl
  have q1 : (0 : Int) < (q' : Int) + 1 := by omega
  have p1 : (0 : Int) < (p' : Int) + 1 := by omega
  have HD := Lib.hid h.hd
  have H := Lib.hid h
  have QL : Hid ((ivals l.xs).length = q' + 1) := Lib.hid (by rw [ivals_len]; exact hq)
  have QR : Hid ((ivals r.xs).length = p' + 1) := Lib.hid (by rw [ivals_len]; exact hp)
  have RLH := Lib.hid RL; have RRH := Lib.hid RR; have HAL := Lib.hid hal; have HAR := Lib.hid har; have HX := Lib.hid hlx; have HY := Lib.hid hry
  have B1 := Lib.hid (fun w2 (hb : Below w.heap.size w w2) => LT.beats_any b L.hb y x R w2 (HD.out.below hb) yR xR)
  have B2 := Lib.hid (fun w2 (hb : Below w.heap.size w w2) => LT.beats_any b L.hb x y R w2 (HD.out.below hb) xR yR)
  rw [gl1] at cl
  rw [gr1] at cr
  have HJ : Hid (jn (tkey R) l.xs r.xs = if tkey R y < tkey R x then r.xs else if tkey R x < tkey R y then l.xs else l.xs ++ r.xs) := Lib.hid (by rw [hlx, hry]; rfl)
  have LC : ((lc = 1) = True ∧ Hid (IRn w (some ⟨gl, 0, none⟩) l')) ∨ ((lc = 1) = False ∧ Hid (IRn w (some ⟨gl, 1, none⟩) l')) := by
    by_cases hh : lc = 1
    · refine Or.inl ⟨by simp [hh], Lib.hid ?_⟩
      have : l' = [] := List.eq_nil_of_length_eq_zero (by rw [hlx] at hq; simp at hq; omega)
      rw [this]; intro k i hi; simp at hi
    · refine Or.inr ⟨by simp [hh], Lib.hid ?_⟩
      have := RL.irn
      rw [hlx, gl1] at this
      exact this.tail
  have RC : ((rc = 1) = True ∧ Hid (IRn w (some ⟨gr, 0, none⟩) r')) ∨ ((rc = 1) = False ∧ Hid (IRn w (some ⟨gr, 1, none⟩) r')) := by
    by_cases hh : rc = 1
    · refine Or.inl ⟨by simp [hh], Lib.hid ?_⟩
      have : r' = [] := List.eq_nil_of_length_eq_zero (by rw [hry] at hp; simp at hp; omega)
      rw [this]; intro k i hi; simp at hi
    · refine Or.inr ⟨by simp [hh], Lib.hid ?_⟩
      have := RR.irn
      rw [hry, gr1] at this
      exact this.tail
  have TLN : Hid (l'.length = q') := Lib.hid (by rw [hlx] at hq; simp at hq; exact hq)
  have TRN : Hid (r'.length = p') := Lib.hid (by rw [hry] at hp; simp at hp; exact hp)
  have TLM : Hid (∀ i, i ∈ l' → i < R.length ∧ tkey R i = tkey R x) := Lib.hid (fun i hi => ⟨(h.ok _ _ hl).2 i (by rw [hlx]; simp [hi]), hal i (by rw [hlx]; simp [hi])⟩)
  have TRM : Hid (∀ i, i ∈ r' → i < R.length ∧ tkey R i = tkey R y) := Lib.hid (fun i hi => ⟨(h.ok _ _ hr).2 i (by rw [hry]; simp [hi]), har i (by rw [hry]; simp [hi])⟩)
  have s1 : (1 : Int) ≤ (q' : Int) + 1 := by omega
  have s2 : (1 : Int) ≤ (p' : Int) + 1 := by omega
  clear RL RR gl3 gr3 h hal har hlx hry
  by_cases k1 : tkey R y < tkey R x
  · have dk : decide (tkey R y < tkey R x) = true := by rw [decide_eq_true_eq]; exact k1
    rw [dk] at B1
    rw [HJ.out, if_pos k1]
    clear B2
    go_enter Try.func30, Try.ntmps30
    go_wp2_with fail
    go_quiet (fail)
    go_wp2_with fail
    have yr1 : (w.drewN nq).cell? ⟨gr, 0, none⟩ = some (.int .i64 (y : Int)) := yr
    have xl1 : (w.drewN nq).cell? ⟨gl, 0, none⟩ = some (.int .i64 (x : Int)) := xl
    have BQ := Lib.hid (belowN w nq)
    generalize w.drewN nq = wq at *
    go_still_tail 9, (by kernel_rfl)
    change wpList _ _ _ _ _ wq.drew
    have BD : Hid (Below w.heap.size w wq.drew) := Lib.hid (bstep BQ.out (Below.refl _ _).drew)
    go_wp2_with fail
    refine (B1.out _ BD.out).mono ?_
    rintro e w1 ⟨rfl, b1⟩
    have BW := Lib.hid (bstep BD.out b1)
    clear b1
    have xl2 : w1.cell? ⟨gl, 0, none⟩ = some (.int .i64 (x : Int)) := by rw [World.cell?_of_block (w := w) (a := ⟨gl, 0, none⟩) (BW.out.block gl gl2)]; exact xl
    have yr2 : w1.cell? ⟨gr, 0, none⟩ = some (.int .i64 (y : Int)) := by rw [World.cell?_of_block (w := w) (a := ⟨gr, 0, none⟩) (BW.out.block gr gr2)]; exact yr
    go_wp2_with fail
    rcases LC with ⟨e3, TI⟩ | ⟨e3, TI⟩
    all_goals
      have UN := Lib.hid (fun c' => LT.unbeaten_none b L.hb y 0 e0.c q' c' e0.A _ l' R w1.drew (HD.out.below (bstep BW.out (Below.refl _ _).drew)) yR (TI.out.below (bstep BW.out (Below.refl _ _).drew)) TLN.out (by omega) (fun i hi => ⟨(TLM.out i hi).1, by rw [(TLM.out i hi).2]; exact k1⟩))
      go_still_tail 7, (by kernel_rfl)
      change wpList _ _ _ _ _ w1.drew
      go_wp2_with fail
      refine (UN.out _).mono ?_
      rintro e w2 ⟨rfl, b2⟩
      have BW2 := Lib.hid (bstep BW.out (bstep (Below.refl _ _).drew b2))
      clear b2
      go_wp2_with (at_builtin; go_loud (refine wpList_row_app cells_int rfl _ _ rfl e0.A 0 e0.c [] rfl (RowA.cut (RE.out.below BW2.out)) rfl (some ⟨gr, 0, none⟩) (p' + 1) rc (ivals r.xs) rfl QR.out (gr1 ▸ hrc ▸ (RRH.out.below BW2.out).src) (ivals_one _) (by omega) ?_))
      intro A1 c1 w3 r1 k3 a3
      have Gw3 : Hid (Gr w w3 e0.A A1) := Lib.hid (Gr.after BW2.out ⟨k3, a3⟩)
      have c4w3 : w3.cell? ⟨b, 4, none⟩ = some (.slice (some ⟨nb, 0, none⟩) K K) := by rw [H.out.far hnb he (Or.inl rfl) Gw3.out]; exact c4
      have n4w3 : w3.cell? ⟨nb, n, none⟩ = some (.slice e0.A e0.xs.length e0.c) := by rw [H.out.far hnb he (Or.inr rfl) Gw3.out]; exact ce
      have f4w3 : w3.frozen? ⟨nb, n, none⟩ = false := by rw [H.out.farF hnb he Gw3.out]; exact fe
      have FIN := Lib.hid (H.out.put he Gw3.out r1 (H.out.ok _ _ hr))
      rw [hp, hnb] at FIN
      clear r1 k3 a3
      go_wp2_with fail
      go_end0
      exact FIN.out
  · have dk : decide (tkey R y < tkey R x) = false := by rw [decide_eq_false_iff_not]; exact k1
    rw [dk] at B1
    by_cases k2 : tkey R x < tkey R y
    · have dk2 : decide (tkey R x < tkey R y) = true := by rw [decide_eq_true_eq]; exact k2
      rw [dk2] at B2
      rw [HJ.out, if_neg k1, if_pos k2]
      go_enter Try.func30, Try.ntmps30
      go_wp2_with fail
      go_quiet (fail)
      go_wp2_with fail
      have yr1 : (w.drewN nq).cell? ⟨gr, 0, none⟩ = some (.int .i64 (y : Int)) := yr
      have xl1 : (w.drewN nq).cell? ⟨gl, 0, none⟩ = some (.int .i64 (x : Int)) := xl
      have BQ := Lib.hid (belowN w nq)
      generalize w.drewN nq = wq at *
      go_still_tail 9, (by kernel_rfl)
      change wpList _ _ _ _ _ wq.drew
      have BD : Hid (Below w.heap.size w wq.drew) := Lib.hid (bstep BQ.out (Below.refl _ _).drew)
      go_wp2_with fail
      refine (B1.out _ BD.out).mono ?_
      rintro e w1 ⟨rfl, b1⟩
      have BW := Lib.hid (bstep BD.out b1)
      clear b1
      have xl2 : w1.cell? ⟨gl, 0, none⟩ = some (.int .i64 (x : Int)) := by rw [World.cell?_of_block (w := w) (a := ⟨gl, 0, none⟩) (BW.out.block gl gl2)]; exact xl
      have yr2 : w1.cell? ⟨gr, 0, none⟩ = some (.int .i64 (y : Int)) := by rw [World.cell?_of_block (w := w) (a := ⟨gr, 0, none⟩) (BW.out.block gr gr2)]; exact yr
      go_wp2_with fail
      go_still_tail 9, (by kernel_rfl)
      change wpList _ _ _ _ _ w1.drew
      have BD2 : Hid (Below w.heap.size w w1.drew) := Lib.hid (bstep BW.out (Below.refl _ _).drew)
      go_wp2_with fail
      refine (B2.out _ BD2.out).mono ?_
      rintro e w2 ⟨rfl, b2⟩
      have BW2 := Lib.hid (bstep BD2.out b2)
      clear b2
      go_wp2_with (at_builtin; go_loud (refine wpList_row_app cells_int rfl _ _ rfl e0.A 0 e0.c [] rfl (RowA.cut (RE.out.below BW2.out)) rfl (some ⟨gl, 0, none⟩) (q' + 1) lc (ivals l.xs) rfl QL.out (gl1 ▸ hlc ▸ (RLH.out.below BW2.out).src) (ivals_one _) (by omega) ?_))
      intro A1 c1 w3 r1 k3 a3
      have Gw3 : Hid (Gr w w3 e0.A A1) := Lib.hid (Gr.after BW2.out ⟨k3, a3⟩)
      have R1 := Lib.hid r1
      have HD3 : Hid (LT.Hd w3 b L.hb R) := Lib.hid (H.out.hd_far he Gw3.out)
      have xl3 : w3.cell? ⟨gl, 0, none⟩ = some (.int .i64 (x : Int)) := by rw [H.out.sib_cell hl he (by omega) Gw3.out gl1]; exact xl
      have TR3 : Hid (∀ o, IRn w (some ⟨gr, o, none⟩) r' → IRn w3 (some ⟨gr, o, none⟩) r') := Lib.hid (fun o t => t.same (fun a ha => by injection ha with ha; subst ha; exact H.out.sib_block hr he (by omega) Gw3.out gr1) Gw3.out.1.size)
      clear r1 k3 a3
      rcases RC with ⟨e3, TI⟩ | ⟨e3, TI⟩
      all_goals
        have UN := Lib.hid (fun c' => LT.unbeaten_none b L.hb x (q' + 1) c1 p' c' A1 _ r' R w3.drew (HD3.out.below (Below.refl _ _).drew) xR ((TR3.out _ TI.out).below (Below.refl _ _).drew) TRN.out (by omega) (fun i hi => ⟨(TRM.out i hi).1, by rw [(TRM.out i hi).2]; exact k2⟩))
        go_wp2_with fail
        go_still_tail 7, (by kernel_rfl)
        change wpList _ _ _ _ _ w3.drew
        go_wp2_with fail
        refine (UN.out _).mono ?_
        rintro e w4 ⟨rfl, b4⟩
        have Gw4 : Hid (Gr w w4 e0.A A1) := Lib.hid (Gw3.out.below (bstep (Below.refl _ _).drew b4))
        have R4 := Lib.hid (R1.out.below (bstep (Below.refl _ _).drew b4))
        clear b4
        have c4w4 : w4.cell? ⟨b, 4, none⟩ = some (.slice (some ⟨nb, 0, none⟩) K K) := by rw [H.out.far hnb he (Or.inl rfl) Gw4.out]; exact c4
        have n4w4 : w4.cell? ⟨nb, n, none⟩ = some (.slice e0.A e0.xs.length e0.c) := by rw [H.out.far hnb he (Or.inr rfl) Gw4.out]; exact ce
        have f4w4 : w4.frozen? ⟨nb, n, none⟩ = false := by rw [H.out.farF hnb he Gw4.out]; exact fe
        have FIN := Lib.hid (H.out.put he Gw4.out R4.out (H.out.ok _ _ hl))
        rw [hq, hnb] at FIN
        go_wp2_with fail
        go_end0
        exact FIN.out
    · have dk2 : decide (tkey R x < tkey R y) = false := by rw [decide_eq_false_iff_not]; exact k2
      rw [dk2] at B2
      rw [HJ.out, if_neg k1, if_neg k2]
      go_enter Try.func30, Try.ntmps30
      go_wp2_with fail
      go_quiet (fail)
      go_wp2_with fail
      have yr1 : (w.drewN nq).cell? ⟨gr, 0, none⟩ = some (.int .i64 (y : Int)) := yr
      have xl1 : (w.drewN nq).cell? ⟨gl, 0, none⟩ = some (.int .i64 (x : Int)) := xl
      have BQ := Lib.hid (belowN w nq)
      generalize w.drewN nq = wq at *
      go_still_tail 9, (by kernel_rfl)
      change wpList _ _ _ _ _ wq.drew
      have BD : Hid (Below w.heap.size w wq.drew) := Lib.hid (bstep BQ.out (Below.refl _ _).drew)
      go_wp2_with fail
      refine (B1.out _ BD.out).mono ?_
      rintro e w1 ⟨rfl, b1⟩
      have BW := Lib.hid (bstep BD.out b1)
      clear b1
      have xl2 : w1.cell? ⟨gl, 0, none⟩ = some (.int .i64 (x : Int)) := by rw [World.cell?_of_block (w := w) (a := ⟨gl, 0, none⟩) (BW.out.block gl gl2)]; exact xl
      have yr2 : w1.cell? ⟨gr, 0, none⟩ = some (.int .i64 (y : Int)) := by rw [World.cell?_of_block (w := w) (a := ⟨gr, 0, none⟩) (BW.out.block gr gr2)]; exact yr
      go_wp2_with fail
      go_still_tail 9, (by kernel_rfl)
      change wpList _ _ _ _ _ w1.drew
      have BD2 : Hid (Below w.heap.size w w1.drew) := Lib.hid (bstep BW.out (Below.refl _ _).drew)
      go_wp2_with fail
      refine (B2.out _ BD2.out).mono ?_
      rintro e w2 ⟨rfl, b2⟩
      have BW2 := Lib.hid (bstep BD2.out b2)
      clear b2
      go_wp2_with (at_builtin; go_loud (refine wpList_row_app cells_int rfl _ _ rfl e0.A 0 e0.c [] rfl (RowA.cut (RE.out.below BW2.out)) rfl (some ⟨gl, 0, none⟩) (q' + 1) lc (ivals l.xs) rfl QL.out (gl1 ▸ hlc ▸ (RLH.out.below BW2.out).src) (ivals_one _) (by omega) ?_))
      intro A1 c1 w3 r1 k3 a3
      have Gw3 : Hid (Gr w w3 e0.A A1) := Lib.hid (Gr.after BW2.out ⟨k3, a3⟩)
      have R1 := Lib.hid r1
      have RR3 : Hid (RowA w3 3 r.A r.c (ivals r.xs)) := Lib.hid (H.out.sib hr he (by omega) Gw3.out)
      clear r1 k3 a3
      go_wp2_with (at_builtin; go_loud (refine wpList_row_app cells_int rfl _ _ rfl A1 (q' + 1) c1 (ivals l.xs) rfl R1.out QL.out (some ⟨gr, 0, none⟩) (p' + 1) rc (ivals r.xs) rfl QR.out (gr1 ▸ hrc ▸ RR3.out.src) (ivals_one _) (by omega) ?_))
      intro A2 c2 w4 r4 k4 a4
      rw [ivals_app] at r4
      have Gw4 : Hid (Gr w w4 e0.A A2) := Lib.hid (Gw3.out.trans ⟨k4, a4⟩)
      have c4w4 : w4.cell? ⟨b, 4, none⟩ = some (.slice (some ⟨nb, 0, none⟩) K K) := by rw [H.out.far hnb he (Or.inl rfl) Gw4.out]; exact c4
      have n4w4 : w4.cell? ⟨nb, n, none⟩ = some (.slice e0.A e0.xs.length e0.c) := by rw [H.out.far hnb he (Or.inr rfl) Gw4.out]; exact ce
      have f4w4 : w4.frozen? ⟨nb, n, none⟩ = false := by rw [H.out.farF hnb he Gw4.out]; exact fe
      have FIN := Lib.hid (H.out.put he Gw4.out r4 (by
        refine ⟨by rw [List.length_append]; exact hsum, fun i hi => ?_⟩
        rcases List.mem_append.1 hi with q9 | q9
        · exact (H.out.ok _ _ hl).2 i q9
        · exact (H.out.ok _ _ hr).2 i q9))
      rw [List.length_append, hq, hp, hnb] at FIN
      clear r4 k4 a4
      go_wp2_with fail
      go_end0
      exact FIN.out
end Go.Proofs.Ytimfmflnaehmgaa
