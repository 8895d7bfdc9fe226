/-
  The contracts of package heap's New, Len, Top, Push, Pop, for things of pairs.
-/
import Derived.Test.YtkgjbmlgbfejlaaHpS
import Derived.Test.YtkgjbmlgbfejlaaHb
namespace Go.Proofs.Ytkgjbmlgbfejlaa
set_option linter.unusedVariables false
set_option linter.unusedSimpArgs false
set_option maxRecDepth 100000
open Go.RowKit

theorem HP.Less.keepH (down : Bool) {w w' : World} {bd bp : Nat} {vs : List Value} {G : List Nat} (h : HP.Less down w bd) (a : Arr w bp 67 vs) (k : Keep (· ∈ bp :: G) w w') (hk : ∀ b, b ∈ G → ∃ cur, w.heap[b]? = some (.cells cur (HP.K down).T (0, 0))) : HP.Less down w' bd := Arr.keep h k (fun q => by
  rcases List.mem_cons.1 q with e | q
  · subst e; exact arr_ne h a (by decide)
  · obtain ⟨cu, q2⟩ := hk bd q; exact arr_ne h q2 (by simp only [HP.K]; decide))
/-- A heap of the things C, its struct in block bp, all else in the blocks G. -/
def HP.At (down : Bool) (w : World) (bp bd : Nat) (C : List (Int × Int)) (G : List Nat) : Prop := ∃ A n c, Arr w bp 67 [HP.fv bd, .int .i64 (C.length : Int), .slice A n c] ∧ HP.Less down w bd ∧ Bag (HP.K down) w A n c C G
theorem HP.At.keep {down : Bool} {w w' : World} {bp bd : Nat} {C : List (Int × Int)} {G : List Nat} {F : Nat → Prop} (h : HP.At down w bp bd C G) (k : Keep F w w') (h1 : ¬ F bp) (h2 : ∀ b, b ∈ G → ¬ F b) (h3 : F bd → ¬ (∃ cur, w.heap[bd]? = some (.cells cur (HP.K down).T (0, 0))) → False) : HP.At down w' bp bd C G := by
  obtain ⟨A, n, c, q1, q2, q3⟩ := h
  exact ⟨A, n, c, Arr.keep q1 k h1, q2.keep k h3, q3.same fun b hb => k.block b (q3.lt b hb) (h2 b hb)⟩
theorem HP.At.below {down : Bool} {w w' : World} {bp bd : Nat} {C : List (Int × Int)} {G : List Nat} (h : HP.At down w bp bd C G) (k : Below w.heap.size w w') : HP.At down w' bp bd C G := by
  obtain ⟨A, n, c, q1, q2, q3⟩ := h
  exact ⟨A, n, c, Arr.below q1 k, q2.below k, q3.below k⟩
theorem HP.At.ne {down : Bool} {w : World} {bp bd : Nat} {C : List (Int × Int)} {G : List Nat} (h : HP.At down w bp bd C G) : bp < w.heap.size ∧ bp ∉ G ∧ ∀ b, b ∈ G → b < w.heap.size ∧ ∃ cur, w.heap[b]? = some (.cells cur (HP.K down).T (0, 0)) := by
  obtain ⟨A, n, c, q1, q2, q3⟩ := h
  refine ⟨Arr.lt q1, fun q => ?_, fun b hb => ⟨q3.lt b hb, q3.kind b hb⟩⟩
  obtain ⟨cu, q4⟩ := q3.kind bp q
  exact arr_ne q1 q4 (by simp only [HP.K]; decide)
theorem HP.equal_fin (d t : Nat) (a b : Array TypeId) (c : Bool) (h : Try.prog.underlying t = some (.func a b c)) (fn : Fn) (p q : Array Value) (w : World) : (Op.equalIn (d + 1) t (.func fn p q) .nilFunc).run Try.prog w = .ok false w := by simp [Op.equalIn, run_underlying h]
theorem HP.eql_fnil (fn : Fn) (p q : Array Value) (w : World) : (binOp .eql 40 (.func fn p q) .nilFunc).run Try.prog w = .ok (.bool false) w := by
  have h : ∃ a b c, Try.prog.underlying 40 = some (.func a b c) := ⟨_, _, _, Try.underlying40⟩
  obtain ⟨a, b, c, h⟩ := h
  simp only [binOp]
  simp [Op.equal, Op.maxDepth, HP.equal_fin 9999 _ a b c h fn p q w]
theorem HP.new_any (down : Bool) (bd : Nat) (w : World) (hq : HP.Less down w bd) : Calls Try.prog 15 #[HP.fv bd] w fun e w' => e = .returned (.pointer (some ⟨w.heap.size, 0, none⟩)) ∧ HP.At down w' w.heap.size bd [] [] ∧ Below w.heap.size w w' ∧ w'.heap.size = w.heap.size + 1 := by
  have HQ := Lib.hid hq
  clear hq
  have EN := HP.eql_fnil
  unfold HP.fv
  go_enter Try.func15, Try.ntmps15
  go_wp2
  go_ret
  refine ⟨rfl, ⟨none, 0, 0, ?_, HQ.out.below ((Below.refl _ _).alloc (Nat.le_refl _) _), Bag.nil _ _⟩, (Below.refl _ _).alloc (Nat.le_refl _) _, by simp⟩
  exact Arr.new w _ [_, _, _]
/-- A pair in a block of its own. -/
def PrV (w : World) (b : Nat) (x : Int × Int) : Prop := Arr w b 39 [.int .i64 x.1, .int .i64 x.2]
theorem Try.size_pr : (Try.prog.info? 39).map (·.size) = some 2 := by kernel_rfl
theorem PrV.run {w : World} {b : Nat} {x : Int × Int} (h : PrV w b x) : (loadVar 39 ⟨b, 0, none⟩).run Try.prog w = .ok (.agg #[.int .i64 x.1, .int .i64 x.2]) w :=
  run_loadVar_mid w b 0 _ [.int .i64 x.1, .int .i64 x.2] _ (fun j v hv => by rw [Arr.cell h, Nat.zero_add]; exact hv) Try.underlying39 rfl Try.size_pr
theorem PrV.set {w : World} {b : Nat} {x : Int × Int} (h : PrV w b x) (y : Int × Int) : PrV ((w.setCell ⟨b, 0, none⟩ (.int .i64 y.1)).setCell ⟨b, 1, none⟩ (.int .i64 y.2)) b y := Arr.set (Arr.set h 0 _) 1 _
theorem ret_pr {fn : Func} {R : Ending → World → Prop} {a : Act} {w : World} {b : Nat} {x : Int × Int} {q : Bool} (i j : Nat) (hf : fn.results = #[.cell i 39, .tmp j]) (hi : a.tmps.getD i undef = .pointer (some ⟨b, 0, none⟩)) (hj : a.tmps.getD j undef = .bool q) (h : PrV w b x) (hd : a.defers = [])
    (hR : R (.returned (.tuple #[.agg #[.int .i64 x.1, .int .i64 x.2], .bool q])) w) : bodyPost Try.prog fn R .ret a w := by
  refine bodyPost_ret (v := .tuple #[.agg #[.int .i64 x.1, .int .i64 x.2], .bool q]) ?_ hd hR
  unfold results
  rw [hf]
  rw [Array.getD_eq_getD_getElem?] at hi hj
  simp [hi, hj, asAddr, h.run]
/-- Below a bound, but for stores at or beyond it. -/
theorem below_set2 {B : Nat} {w w' : World} (h : Below B w w') {b : Nat} (hb : B ≤ b) (u v : Value) : Below B w ((w'.setCell ⟨b, 0, none⟩ u).setCell ⟨b, 1, none⟩ v) := (h.setCell hb u).setCell hb v
/-- What Top and Pop answer. -/
def HP.Least (down : Bool) (C : List (Int × Int)) (x : (Int × Int)) : Prop := x ∈ C ∧ ∀ y, y ∈ C → (HP.K down).key x ≤ (HP.K down).key y
theorem HP.top_none (down : Bool) (bp bd : Nat) (G : List Nat) (w : World) (h : HP.At down w bp bd [] G) : Calls Try.prog 31 #[.pointer (some ⟨bp, 0, none⟩)] w fun e w' => e = .returned (.tuple #[.agg #[.int .i64 0, .int .i64 0], .bool false]) ∧ Below w.heap.size w w' := by
  obtain ⟨A, n, c, q1, q2, q3⟩ := h
  have hbl := Arr.lt q1
  have c1 : w.cell? ⟨bp, 1, none⟩ = some (.int .i64 0) := Arr.cell q1 1
  clear q1 q2 q3
  have R0 : Hid (PrV (w.alloc (.cells #[.int .i64 0, .int .i64 0] 39)) w.heap.size (0, 0)) := Lib.hid (Arr.new w _ [_, _])
  go_enter Try.func31, Try.ntmps31
  go_wp2
  refine ret_pr (b := w.heap.size) (x := (0, 0)) 2 3 rfl rfl rfl ?_ rfl ⟨rfl, ?_⟩
  · exact Arr.below R0.out ((Below.refl _ _).alloc (Nat.le_refl _) (.cells #[.int .i64 0, .int .i64 0] 39))
  · exact bstep ((Below.refl _ _).alloc (Nat.le_refl _) _) ((Below.refl _ _).alloc (Nat.le_refl _) _)
set_option maxHeartbeats 1000000 in
theorem HP.top_at (down : Bool) (bp bd m c s g o : Nat) (e : En (Int × Int)) (w : World) (q1 : Arr w bp 67 [HP.fv bd, .int .i64 ((s + 1 : Nat) : Int), .slice (some ⟨g, o, none⟩) (m + 1) c]) (hra : w.rangeAt g (o + m * ((HP.K down).z + 1)) (En.v (HP.K down) e)) (hgl : g < w.heap.size) (hm : m ≤ 1000) : Calls Try.prog 31 #[.pointer (some ⟨bp, 0, none⟩)] w (fun e9 w' => e9 = .returned (.tuple #[.agg #[.int .i64 e.x.1, .int .i64 e.x.2], .bool true]) ∧ Below w.heap.size w w') := by
  have hbl := Arr.lt q1
  have c1 : w.cell? ⟨bp, 1, none⟩ = some (.int .i64 ((s : Int) + 1)) := Arr.cell q1 1
  have c2 : w.cell? ⟨bp, 2, none⟩ = some (.slice (some ⟨g, o, none⟩) (m + 1) c) := Arr.cell q1 2
  have f0 : w.cell? ⟨g, o + m * 3, none⟩ = some (.int .i64 e.x.1) := hra 0 _ rfl; have f1 : w.cell? ⟨g, o + m * 3 + 1, none⟩ = some (.int .i64 e.x.2) := hra 1 _ rfl
  have d0 : decide ((s : Int) + 1 = 0) = false := by rw [decide_eq_false_iff_not]; omega
  have d3 : IntKind.i64.wrap ((m : Int) + 1 - 1) = (m : Int) := by rw [IntWalk.i64_in _ (by omega)]; omega
  have d9 : IntKind.i64.wrap (m : Int) = (m : Int) := IntWalk.i64_in _ (by omega)
  have d4 : (m : Int) < (m : Int) + 1 := by omega
  have d6 : (0 : Int) ≤ (m : Int) := by omega
  have d8 : ((s : Int) + 1 == 0) = false := by rw [beq_eq_false_iff_ne]; omega
  have R0 : Hid (PrV (w.alloc (.cells #[.int .i64 0, .int .i64 0] 39)) w.heap.size (0, 0)) := Lib.hid (Arr.new w _ [_, _])
  clear q1 hra
  go_enter Try.func31, Try.ntmps31
  go_wp2
  obtain ⟨W, hW⟩ : ∃ W, W = w.alloc (.cells #[.int .i64 0, .int .i64 0] 39) := ⟨_, rfl⟩
  have BW : Below w.heap.size w W := by rw [hW]; exact (Below.refl _ _).alloc (Nat.le_refl _) _
  have c2' : W.cell? ⟨bp, 2, none⟩ = some (.slice (some ⟨g, o, none⟩) (m + 1) c) := by rw [BW.cell (p := ⟨bp, 2, none⟩) hbl]; exact c2
  have f0' : W.cell? ⟨g, o + m * 3, none⟩ = some (.int .i64 e.x.1) := by rw [BW.cell (p := ⟨g, o + m * 3, none⟩) hgl]; exact f0
  have f1' : W.cell? ⟨g, o + m * 3 + 1, none⟩ = some (.int .i64 e.x.2) := by rw [BW.cell (p := ⟨g, o + m * 3 + 1, none⟩) hgl]; exact f1
  have R1 : Hid (PrV W w.heap.size (0, 0)) := Lib.hid (by rw [hW]; exact R0.out)
  have p0 : W.cell? ⟨w.heap.size, 0, none⟩ = some (.int .i64 0) := Arr.cell R1.out 0
  have p1 : W.cell? ⟨w.heap.size, 1, none⟩ = some (.int .i64 0) := Arr.cell R1.out 1
  have p2 : W.frozen? ⟨w.heap.size, 0, none⟩ = false := Arr.frozen R1.out 0
  have p3 : W.frozen? ⟨w.heap.size, 1, none⟩ = false := Arr.frozen R1.out 1
  have BH := Lib.hid BW
  rw [← hW]
  clear hW R0 c2 f0 f1 c1 BW
  go_still_tail 13, (by kernel_rfl)
  change wpList _ _ _ _ _ W.drew
  go_wp2
  refine ret_pr (b := w.heap.size) (x := e.x) 2 3 rfl rfl rfl ?_ rfl ⟨rfl, ?_⟩
  · exact PrV.set (x := (0, 0)) (w := W.drew) R1.out e.x
  · exact below_set2 (BH.out.drew) (Nat.le_refl _) _ _
theorem HP.top_any (down : Bool) (bp bd : Nat) (C : List (Int × Int)) (G : List Nat) (w : World) (h : HP.At down w bp bd C G) (hc : C ≠ []) (hs : C.length ≤ 1000) : Calls Try.prog 31 #[.pointer (some ⟨bp, 0, none⟩)] w (fun e w' => ∃ x, e = .returned (.tuple #[.agg #[.int .i64 x.1, .int .i64 x.2], .bool true]) ∧ HP.Least down C x ∧ Below w.heap.size w w') := by
  obtain ⟨A, n, c, q1, q2, q3⟩ := h
  have hz := q3.zero
  have hn := q3.small
  obtain ⟨m, rfl⟩ : ∃ m, n = m + 1 := ⟨n - 1, by have : n ≠ 0 := fun e => hc (hz.1 e); omega⟩
  obtain ⟨l, F, e, es, C0, C1, F0, F1, g, o, rfl, _, v1, he, hra, hmin, pm, _⟩ := q3.last
  obtain ⟨s, hs2⟩ : ∃ s, C.length = s + 1 := ⟨C.length - 1, by omega⟩
  rw [hs2] at q1
  exact (HP.top_at down bp bd m c s g o e w q1 hra (v1.lt g (by simp [blk])) (by omega)).mono fun e9 w' q => ⟨e.x, q.1, ⟨pm.symm.subset (by simp), hmin⟩, q.2⟩
set_option maxHeartbeats 2000000 in
theorem HP.push_any (down : Bool) (bp bd : Nat) (C : List (Int × Int)) (G : List Nat) (x : (Int × Int)) (w : World) (h : HP.At down w bp bd C G) (hs : C.length < 1000) : Calls Try.prog 17 #[.pointer (some ⟨bp, 0, none⟩), .agg #[.int .i64 x.1, .int .i64 x.2]] w fun e w' => e = .returned (.tuple #[]) ∧ ∃ C' G', HP.At down w' bp bd C' G' ∧ C'.Perm (C ++ [x]) ∧ Fresh G' G w ∧ Keep (· ∈ bp :: G) w w' := by
  have hW0 := h.ne
  have wA0 := Lib.hid (((Below.refl _ w).alloc (Nat.le_refl _) (.cells #[.int .i64 x.1, .int .i64 x.2] 39)).drew)
  obtain ⟨W, hW⟩ : ∃ W, W = (w.alloc (.cells #[.int .i64 x.1, .int .i64 x.2] 39)).drew := ⟨_, rfl⟩
  rw [← hW] at wA0
  replace h := h.below wA0.out
  have hbw : bp < w.heap.size := by
    obtain ⟨hb0, _⟩ := hW0
    exact hb0
  obtain ⟨hbl, hbG, hk⟩ := h.ne
  obtain ⟨A, n, c, q1, q2, q3⟩ := h
  have q30 := q3
  obtain ⟨l, F, hG, v1, f1, d1, nd⟩ := q3
  have LAY := Lib.hid (HP.lay_any down bp bd n c C.length A A n c l x none 0 0 C F [x] [] W q1 q2 v1 f1 (Fo.leaf _ _ _) (by simpa using nd) d1 (by simp; omega))
  have c2 : W.cell? ⟨bp, 2, none⟩ = some (.slice A n c) := Arr.cell q1 2
  have c20 : w.cell? ⟨bp, 2, none⟩ = some (.slice A n c) := by rw [← wA0.out.cell (p := ⟨bp, 2, none⟩) hbw]; exact c2
  have Q1 := Lib.hid q1; have Q2 := Lib.hid q2; have Q3 := Lib.hid q30; have HG := Lib.hid hG; have BG := Lib.hid hbG; have HK := Lib.hid hk
  have FIN : Hid (∀ (e : Ending) (w1 : World), Laid (HP.K down) W A n c C F [x] [] e w1 → ∃ A' n' c', e = .returned (.slice A' n' c') ∧ Arr w1 bp 67 [HP.fv bd, .int .i64 (C.length : Int), .slice A n c] ∧ ∃ C' G', HP.At down ((w1.setCell ⟨bp, 2, none⟩ (.slice A' n' c')).setCell ⟨bp, 1, none⟩ (.int .i64 ((C.length : Int) + 1))) bp bd C' G' ∧ C'.Perm (C ++ [x]) ∧ Fresh G' G w ∧ Keep (· ∈ bp :: G) w ((w1.setCell ⟨bp, 2, none⟩ (.slice A' n' c')).setCell ⟨bp, 1, none⟩ (.int .i64 ((C.length : Int) + 1)))) := Lib.hid (fun e w1 hL => by
    obtain ⟨A', n', c', C', G', rfl, bg, pm, fr, kp⟩ := Bag.laid hL
    rw [List.append_nil, ← HG.out] at fr kp
    have a1 : Arr w1 bp _ _ := Arr.keep Q1.out kp BG.out
    have l1 := Q2.out.keep kp (fun q hq => hq (HK.out bd q).2)
    have hG1 : ∀ b, b ∈ G' → b ≠ bp := fun b hb e1 => by
      subst e1
      rcases fr b hb with q | q
      · exact BG.out q
      · omega
    have a2 := Arr.set a1 2 (.slice A' n' c')
    have a3 := Arr.set a2 1 (.int .i64 ((C.length : Int) + 1))
    have kf : Keep (· = bp) w1 ((w1.setCell ⟨bp, 2, none⟩ (.slice A' n' c')).setCell ⟨bp, 1, none⟩ (.int .i64 ((C.length : Int) + 1))) := ⟨rfl, rfl, rfl, by simp [World.setCell], fun q hq hn => by rw [heap_setCell_other _ _ q _ hn, heap_setCell_other _ _ q _ hn]⟩
    refine ⟨A', n', c', rfl, a1, C', G', ⟨A', n', c', by
      have e1 : (C'.length : Int) = (C.length : Int) + 1 := by have := pm.length_eq; simp at this; omega
      rw [e1]
      exact a3, (l1.set a1 2 _).set a2 1 _, bg.same fun b hb => kf.block b (bg.lt b hb) (hG1 b hb)⟩, pm, fun b hb => ?_, ?_⟩
    · rcases fr b hb with q | q
      · exact Or.inl q
      · exact Or.inr (by have := wA0.out.size; omega)
    · exact ((Keep.of_below (F := (· ∈ bp :: G)) wA0.out).trans (F' := (· ∈ G)) (fun b hb => Or.inl (by simp [hb])) kp).trans (F' := (· = bp)) (fun b hb => Or.inl (by subst hb; simp)) kf)
  obtain ⟨mL, hmL⟩ : ∃ m, C.length = m := ⟨_, rfl⟩
  rw [hmL] at FIN hs
  clear q1 q2 q30 hG v1 f1 d1 nd hbG hk hmL c2 Q1 Q2 Q3 HG BG HK
  rw [hW] at LAY
  go_enter Try.func17, Try.ntmps17
  go_wp2_with fail
  go_region_law (go_simp; go_at_call 30; refine LAY.out.mono ?_; intro e w1 hL; obtain ⟨A', n', c', he1, a1, fin⟩ := FIN.out e w1 (by rw [hW]; exact hL); subst he1; have b1 : w1.cell? ⟨bp, 1, none⟩ = some (.int .i64 (mL : Int)) := Arr.cell a1 1; have b2 : w1.cell? ⟨bp, 2, none⟩ = some (.slice A n c) := Arr.cell a1 2; have b3 : w1.frozen? ⟨bp, 1, none⟩ = false := Arr.frozen a1 1; have b4 : w1.frozen? ⟨bp, 2, none⟩ = false := Arr.frozen a1 2; have FI := Lib.hid fin; clear fin a1 hL)
  all_goals
    go_wp2_with fail
    go_end0
    exact ⟨rfl, FI.out⟩
set_option maxHeartbeats 4000000 in
theorem HP.pop_none (down : Bool) (bp bd : Nat) (G : List Nat) (w : World) (h : HP.At down w bp bd [] G) : Calls Try.prog 18 #[.pointer (some ⟨bp, 0, none⟩)] w fun e w' => e = .returned (.tuple #[.agg #[.int .i64 0, .int .i64 0], .bool false]) ∧ Below w.heap.size w w' := by
  have T := Lib.hid (HP.top_none down bp bd G (w.alloc (.cells #[.int .i64 0, .int .i64 0] 39)) (h.below ((Below.refl _ _).alloc (Nat.le_refl _) _)))
  clear h
  go_enter Try.func18, Try.ntmps18
  go_wp2_with fail
  refine T.out.mono ?_
  rintro e w1 ⟨rfl, b1⟩
  have B1 := Lib.hid (bstep ((Below.refl _ w).alloc (Nat.le_refl _) (.cells #[.int .i64 0, .int .i64 0] 39)) b1)
  have hs := b1.size
  have hs2 : w.heap.size < w1.heap.size := by simp at hs; omega
  have r0 : w1.cell? ⟨w.heap.size, 0, none⟩ = some (.int .i64 0) := by rw [b1.cell (p := ⟨w.heap.size, 0, none⟩) (by simp)]; simp [go_sem]
  have r1 : w1.cell? ⟨w.heap.size, 1, none⟩ = some (.int .i64 0) := by rw [b1.cell (p := ⟨w.heap.size, 1, none⟩) (by simp)]; simp [go_sem]
  have f0 : w1.frozen? ⟨w.heap.size, 0, none⟩ = false := by rw [b1.frozen (p := ⟨w.heap.size, 0, none⟩) (by simp)]; simp
  have f1 : w1.frozen? ⟨w.heap.size, 1, none⟩ = false := by rw [b1.frozen (p := ⟨w.heap.size, 1, none⟩) (by simp)]; simp
  have R1' : PrV w1 w.heap.size (0, 0) := Arr.below (Arr.new w _ [_, _]) b1
  clear b1 hs T
  have R1 : Hid (PrV w1 w.heap.size (0, 0)) := Lib.hid R1'
  clear R1'
  go_wp2
  refine ret_pr (b := w.heap.size) (x := (0, 0)) 2 3 rfl rfl rfl ?_ rfl ⟨rfl, ?_⟩
  · exact Arr.below (PrV.set (x := (0, 0)) R1.out (0, 0)) ((Below.refl _ _).alloc (Nat.le_refl _) (.cells #[.int .i64 0, .int .i64 0] 39))
  · exact bstep (below_set2 B1.out (Nat.le_refl _) _ _) ((Below.refl _ _).alloc (Nat.le_refl _) _)
set_option maxHeartbeats 4000000 in
theorem HP.pop_any (down : Bool) (bp bd : Nat) (C : List (Int × Int)) (G : List Nat) (w0 : World) (h : HP.At down w0 bp bd C G) (hc : C ≠ []) (hs : C.length ≤ 1000) : Calls Try.prog 18 #[.pointer (some ⟨bp, 0, none⟩)] w0 fun e w' => ∃ x C' G', e = .returned (.tuple #[.agg #[.int .i64 x.1, .int .i64 x.2], .bool true]) ∧ HP.Least down C x ∧ HP.At down w' bp bd C' G' ∧ C.Perm (x :: C') ∧ Fresh G' G w0 ∧ Keep (· ∈ bp :: G) w0 w' := by
  obtain ⟨hbl, hbG, hk⟩ := h.ne
  obtain ⟨A, n, c, q1, q2, q3⟩ := h
  have hz := q3.zero
  have hn := q3.small
  obtain ⟨m, rfl⟩ : ∃ m, n = m + 1 := ⟨n - 1, by have : n ≠ 0 := fun e => hc (hz.1 e); omega⟩
  have hlt := q3.lt
  obtain ⟨l, F, e, es, C0, C1, F0, F1, g, o, rfl, hG, v1, he, hra, hmin, pm, hF, f0, d0, ve, fe, nd⟩ := q3.last
  subst hF
  subst hG
  obtain ⟨s, hs2⟩ : ∃ s, C.length = s + 1 := ⟨C.length - 1, by omega⟩
  rw [hs2] at q1
  have hpl := pm.length_eq
  simp at hpl
  have BA0 := Lib.hid ((Below.refl _ w0).alloc (Nat.le_refl _) (.cells #[.int .i64 0, .int .i64 0] 39))
  have T := Lib.hid (HP.top_at down bp bd m c s g o e (w0.alloc (.cells #[.int .i64 0, .int .i64 0] 39)) (Arr.below q1 BA0.out) (fun j v hv => by rw [BA0.out.cell (p := ⟨g, o + m * ((HP.K down).z + 1) + j, none⟩) (v1.lt g (by simp [blk]))]; exact hra j v hv) (by have := v1.lt g (by simp [blk]); have := BA0.out.size; omega) (by omega))
  have hec := ve.cap
  have hel := ve.len
  have hel2 := fe.len
  have V10 := Lib.hid v1
  have VE := Lib.hid ve; have FE := Lib.hid fe; have ND := Lib.hid nd; have F00 := Lib.hid f0; have D0 := Lib.hid d0; have Q1 := Lib.hid q1; have Q2 := Lib.hid q2; have RA := Lib.hid hra; have LT := Lib.hid hlt; have KI := Lib.hid hk
  have BG := Lib.hid hbG
  have LEA : Hid (HP.Least down C e.x) := Lib.hid ⟨pm.symm.subset (by simp), hmin⟩
  have PM := Lib.hid pm
  have hen : e.n ≤ 1000 := by omega
  have hmi : (m : Int) ≤ 1000 := by omega
  have hmn : m ≤ 1000 := by omega
  have hsb : s ≤ 1000 := by omega
  have HC1 : Hid (C1.length ≤ 1000 ∧ C0.length + C1.length ≤ 999) := Lib.hid (by omega)
  clear ve fe nd f0 d0 q1 q2 q3 hra hlt hk hbG hmin pm hz hn he v1 hc hs hel hel2 hpl hec
  go_enter Try.func18, Try.ntmps18
  go_wp2_with fail
  refine T.out.mono ?_
  rintro e1 w1 ⟨rfl, b1⟩
  obtain ⟨w, hwu⟩ : ∃ w, w = w1.alloc (.cells #[.int .i64 e.x.1, .int .i64 e.x.2] 39) := ⟨_, rfl⟩
  obtain ⟨bx, hbx⟩ : ∃ b, b = w1.heap.size := ⟨_, rfl⟩
  obtain ⟨br, hbr⟩ : ∃ b, b = w0.heap.size := ⟨_, rfl⟩
  have BU : Hid (Below w0.heap.size w0 w) := Lib.hid (by rw [hwu]; exact bstep (bstep BA0.out b1) ((Below.refl _ _).alloc (Nat.le_refl _) _))
  have PX : Hid (PrV w bx e.x) := Lib.hid (by rw [hwu, hbx]; exact Arr.new w1 _ [_, _])
  have PR : Hid (PrV w br (0, 0)) := Lib.hid (by rw [hwu, hbr]; exact Arr.below (Arr.below (Arr.new w0 _ [_, _]) b1) ((Below.refl _ _).alloc (Nat.le_refl _) _))
  have hbrl : w0.heap.size ≤ br := by omega
  go_upto_region 2 with fail
  rw [← hwu, ← hbx, ← hbr]
  clear hwu hbx hbr b1 T
  -- everything is lifted to the world in which the loop begins
  have Q1 := Lib.hid (Arr.below Q1.out BU.out); have Q2 := Lib.hid (Q2.out.below BU.out); have V1 := Lib.hid (V10.out.below BU.out)
  have VE := Lib.hid (VE.out.below BU.out); have FE := Lib.hid (FE.out.older BU.out); have F00 := Lib.hid (F00.out.older BU.out)
  have RA : Hid (w.rangeAt g (o + m * ((HP.K down).z + 1)) (En.v (HP.K down) e)) := Lib.hid (fun j v hv => by rw [BU.out.cell (p := ⟨g, o + m * ((HP.K down).z + 1) + j, none⟩) (LT.out g (by simp [blk]))]; exact RA.out j v hv)
  have KI := Lib.hid (fun b hb => (⟨by have := (KI.out b hb).1; have := BU.out.size; omega, by obtain ⟨cu, q⟩ := (KI.out b hb).2; exact ⟨cu, by rw [BU.out.block b (KI.out b hb).1]; exact q⟩⟩ : b < w.heap.size ∧ ∃ cur, w.heap[b]? = some (.cells cur (HP.K down).T (0, 0))))
  have LT : Hid (∀ b, b ∈ blk (some ⟨g, o, none⟩) ++ (F0 ++ (blk e.A ++ F1)) → b < w.heap.size) := Lib.hid (fun b hb => (KI.out b hb).1)
  have hbl0 := hbl
  have hbl : bp < w.heap.size := by have := BU.out.size; omega
  have DE := Lib.hid (fun w1 (b : Below w.heap.size w w1) => HP.del_any down (some ⟨g, o, none⟩) (m + 1) c m l w1 (V1.out.below b) (by omega) (by omega))
  have dd : ((m + 1 : Nat) : Int) = (m : Int) + 1 := by omega
  rw [dd] at DE
  clear dd
  have B1 : Hid (Below w.heap.size w w) := Lib.hid (Below.refl _ _)
  have c2 : w.cell? ⟨bp, 2, none⟩ = some (.slice (some ⟨g, o, none⟩) (m + 1) c) := Arr.cell Q1.out 2
  have fa : w.cell? ⟨g, o + m * (2 + 1) + 2, none⟩ = some (.slice e.A e.n e.c) := RA.out 2 _ rfl
  have Q1' := Q1
  have hgl : g < w.heap.size := LT.out g (by simp [blk])
  have d4 : (m : Int) < (m : Int) + 1 := by omega
  have d6 : (0 : Int) ≤ (m : Int) := by omega
  go_wp2_with fail
  refine (DE.out w B1.out).mono ?_
  rintro e2 wd ⟨rfl, vd, kd, od⟩
  have hbg : Hid (bp ∉ blk (some ⟨g, o, none⟩)) := Lib.hid (fun q => BG.out (by simp [q]))
  have Qd := Lib.hid (Arr.keep Q1'.out kd hbg.out)
  have c20 : wd.cell? ⟨bp, 2, none⟩ = some (.slice (some ⟨g, o, none⟩) (m + 1) c) := Arr.cell Qd.out 2
  have c2f : wd.frozen? ⟨bp, 2, none⟩ = false := Arr.frozen Qd.out 2
  have Q2d : Hid (HP.Less down wd bd) := Lib.hid ((Q2.out.below B1.out).keep kd (fun q hq => hq (by
    obtain ⟨cu, q5⟩ := KI.out bd (by simp [q]) |>.2
    exact ⟨cu, by rw [B1.out.block bd (KI.out bd (by simp [q])).1]; exact q5⟩)))
  have Q3 : Hid (Arr (wd.setCell ⟨bp, 2, none⟩ (.slice (some ⟨g, o, none⟩) m c)) bp 67 [HP.fv bd, .int .i64 ((s + 1 : Nat) : Int), .slice (some ⟨g, o, none⟩) m c]) := Lib.hid (Arr.set Qd.out 2 _)
  have Q23 := Lib.hid (Q2d.out.set Qd.out 2 (.slice (some ⟨g, o, none⟩) m c))
  have far : Hid (∀ b, b ∈ blk e.A ++ F1 → (wd.setCell ⟨bp, 2, none⟩ (.slice (some ⟨g, o, none⟩) m c)).heap[b]? = w.heap[b]?) := Lib.hid (fun b hb => by
    have hbG : b ∈ blk (some ⟨g, o, none⟩) ++ (F0 ++ (blk e.A ++ F1)) := by simp at hb ⊢; rcases hb with q | q <;> simp [q]
    rw [heap_setCell_other wd _ b _ (fun e5 => BG.out (by have e5 : b = bp := e5; rw [← e5]; exact hbG)), kd.block b (by have := LT.out b hbG; have := B1.out.size; omega) (fun q => (List.nodup_append.1 ND.out).2.2 b q b (by simp at hb ⊢; rcases hb with q | q <;> simp [q]) rfl), B1.out.block b (LT.out b hbG)])
  have VE3 := Lib.hid (VE.out.same fun b hb => far.out b (by simp [hb]))
  have FE3 := Lib.hid (FE.out.same fun b hb => far.out b (by simp [hb]))
  have ND3 : Hid ((blk e.A ++ F1).Nodup) := Lib.hid (List.nodup_append.1 (List.nodup_append.1 ND.out).2.1).2.1
  have SE := Lib.hid (HP.settle_any down bp bd m c ((s + 1 : Nat) : Int) (some ⟨g, o, none⟩) e.n e.A e.n e.c es C1 F1 _ (Nat.le_refl _) Q3.out Q23.out VE3.out FE3.out ND3.out HC1.out.1)
  have VD := Lib.hid vd; have KD := Lib.hid kd
  clear vd kd od c2 fa DE
  go_wp2_with fail
  refine SE.out.mono ?_
  intro e3 w4 st
  obtain ⟨n3, l3, rfl, hl3, hn3, k4, pi⟩ := PopI.start B1.out KD.out VD.out F00.out D0.out ND.out LT.out hbl BG.out st
  have Q4 := Lib.hid (Arr.keep Q3.out k4 (fun q => BG.out (by simp at q ⊢; rcases q with q | q <;> simp [q])))
  have PI := Lib.hid pi; have HL3 := Lib.hid hl3
  clear st k4 pi hl3 c20 c2f Qd Q2d Q3 Q23 far VE3 FE3 SE VD KD
  go_wp2_with fail
  go_loopw [9, 47] (fun _ jv wr => ∃ (j : Nat) (A : Option Addr) (n c : Nat), j ≤ n3 ∧ jv = .int .i64 j ∧ Arr wr bp 67 [HP.fv bd, .int .i64 ((s + 1 : Nat) : Int), .slice A n c] ∧ PopI (HP.K down) w (blk (some ⟨g, o, none⟩) ++ (F0 ++ (blk e.A ++ F1))) bp (C0 ++ C1) e.A n3 e.c l3 wr j A n c) (fun _ jv _ => n3 - (intOf jv).toNat)
  case atStart => exact ⟨0, _, _, _, Nat.zero_le _, rfl, Q4.out, PI.out⟩
  case round =>
    clear Q4 PI
    obtain ⟨j, A, n, c, hj, rfl, qa, pi⟩ := hrel
    have QA := Lib.hid qa
    have r1 : wr.cell? ⟨bp, 1, none⟩ = some (.int .i64 ((s : Int) + 1)) := Arr.cell qa 1
    have r2 : wr.cell? ⟨bp, 2, none⟩ = some (.slice A n c) := Arr.cell qa 2
    have rf1 : wr.frozen? ⟨bp, 1, none⟩ = false := Arr.frozen qa 1
    have rf2 : wr.frozen? ⟨bp, 2, none⟩ = false := Arr.frozen qa 2
    have hbw := Arr.lt qa
    have LEr := Lib.hid (HP.Less.keepH down Q2.out Q1.out pi.keep (fun b hb => (KI.out b hb).2))
    clear qa
    by_cases hlt : j < n3
    · have i1 : decide ((j : Int) < (n3 : Int)) = true := by rw [decide_eq_true_eq]; omega
      have bj : (j : Int) < (n3 : Int) := by omega
      obtain ⟨f, hf⟩ : ∃ f, l3[j]? = some f := ⟨_, List.getElem?_eq_getElem (by rw [HL3.out]; exact hlt)⟩
      obtain ⟨g2, o2, hA2, hgl2, hra2, _⟩ := pi.row.at hf
      have HA2 := Lib.hid hA2; have HF2 := Lib.hid hf; have PI := Lib.hid pi
      have r3 : wr.cell? ⟨g2, o2 + j * 3, none⟩ = some (.int .i64 f.x.1) := hra2 0 _ rfl; have r4 : wr.cell? ⟨g2, o2 + j * 3 + 1, none⟩ = some (.int .i64 f.x.2) := hra2 1 _ rfl; have r5 : wr.cell? ⟨g2, o2 + j * 3 + 2, none⟩ = some (.slice f.A f.n f.c) := hra2 2 _ rfl
      clear hf hra2 pi
      have BA : Hid (Below wr.heap.size wr ((wr.alloc (.cells #[.int .i64 f.x.1, .int .i64 f.x.2, .slice f.A f.n f.c] 70)).drew)) := Lib.hid (((Below.refl _ _).alloc (Nat.le_refl _) _).drew)
      obtain ⟨l5, C5, F5, Ct5, Ft5, s1, s2, s3, s4, s5, s6, s7, s8⟩ := PopI.split (PI.out.below BA.out) HF2.out hbl BG.out
      have QA5 := Lib.hid (Arr.below QA.out BA.out)
      have LAY := Lib.hid (HP.lay_any down bp bd n c ((s + 1 : Nat) : Int) A A n c l5 f.x f.A f.n f.c C5 F5 Ct5 Ft5 _ QA5.out (LEr.out.below BA.out) s1 s2 s4 s5 s3 (by have := HC1.out; simp at s6; omega))
      have NX := Lib.hid s8; have NB := Lib.hid s7
      clear s1 s2 s3 s4 s5 s6 s7 s8 PI
      have HA3 : e.A = some ⟨g2, o2, none⟩ := HA2.out
      rw [HA3]
      clear HA3
      go_upto_region 10 with fail
      go_region_law (go_simp; go_at_call 30; refine LAY.out.mono ?_; intro e8 w8 hl8; obtain ⟨A8, n8, c8, he8, k8, nx8⟩ := NX.out w8 e8 hl8; subst he8; have Q8 := Lib.hid (Arr.keep QA5.out k8 (fun q => NB.out bp q rfl)); have x2 : w8.cell? ⟨bp, 2, none⟩ = some (.slice A n c) := Arr.cell Q8.out 2; have xf : w8.frozen? ⟨bp, 2, none⟩ = false := Arr.frozen Q8.out 2; have N8 := Lib.hid (nx8 2 (.slice A8 n8 c8)); have R8 := Lib.hid (Arr.set Q8.out 2 (.slice A8 n8 c8)); clear hl8 k8 nx8)
      all_goals
        go_wp2_with fail
        go_roundw
        case rel => exact ⟨j + 1, A8, n8, c8, by omega, by go_num, R8.out, by have q := N8.out; rw [HA2.out] at q; exact q⟩
        case measure => simp [intOf]; omega
    · obtain rfl : j = n3 := by omega
      have i1 : decide ((j : Int) < (j : Int)) = false := by simp
      obtain ⟨C9, H9, bg, pm9, fr9, kp9, hb9⟩ := PopI.fin pi HL3.out hbl BG.out
      have hsi : (s : Int) ≤ 1000 := by omega
      have kk : Keep (· = bp) wr (wr.setCell ⟨bp, 1, none⟩ (.int .i64 (s : Int))) := ⟨rfl, rfl, rfl, by simp [World.setCell], fun q hq hn => heap_setCell_other wr _ q _ hn⟩
      have apx : Hid (∀ (b : Nat) (x : Int × Int), PrV w b x → b ∉ bp :: (blk (some ⟨g, o, none⟩) ++ (F0 ++ (blk e.A ++ F1)))) := Lib.hid (fun b x hp q => by
        rcases List.mem_cons.1 q with q | q
        · subst q; exact arr_ne hp Q1.out (by decide)
        · obtain ⟨cu, q2⟩ := (KI.out b q).2
          exact arr_ne hp q2 (by simp only [HP.K]; decide))
      have PXr : PrV wr bx e.x := Arr.keep PX.out kp9 (apx.out bx _ PX.out)
      have PRr : PrV wr br (0, 0) := Arr.keep PR.out kp9 (apx.out br _ PR.out)
      have n1 : ¬ bx = bp := fun q => apx.out bx _ PX.out (by simp [q])
      have n2 : ¬ br = bp := fun q => apx.out br _ PR.out (by simp [q])
      have n3 : ¬ bp = bx := fun q => n1 q.symm
      have n4 : ¬ bp = br := fun q => n2 q.symm
      have nb : ∀ b, b ∈ H9 → b ≠ br := fun b hb q => by
        subst q
        obtain ⟨cu, q2⟩ := bg.kind b hb
        exact arr_ne PRr q2 (by simp only [HP.K]; decide)
      have x0 : wr.cell? ⟨bx, 0, none⟩ = some (.int .i64 e.x.1) := Arr.cell PXr 0
      have x1 : wr.cell? ⟨bx, 1, none⟩ = some (.int .i64 e.x.2) := Arr.cell PXr 1
      have y0 : wr.cell? ⟨br, 0, none⟩ = some (.int .i64 0) := Arr.cell PRr 0
      have y1 : wr.cell? ⟨br, 1, none⟩ = some (.int .i64 0) := Arr.cell PRr 1
      have y2 : wr.frozen? ⟨br, 0, none⟩ = false := Arr.frozen PRr 0
      have y3 : wr.frozen? ⟨br, 1, none⟩ = false := Arr.frozen PRr 1
      have PRf : Hid (PrV (((wr.setCell ⟨bp, 1, none⟩ (.int .i64 (s : Int))).setCell ⟨br, 0, none⟩ (.int .i64 e.x.1)).setCell ⟨br, 1, none⟩ (.int .i64 e.x.2)) br e.x) := Lib.hid (PrV.set (x := (0, 0)) (Arr.far PRr n2 _) e.x)
      have k2 : Keep (· = br) (wr.setCell ⟨bp, 1, none⟩ (.int .i64 (s : Int))) (((wr.setCell ⟨bp, 1, none⟩ (.int .i64 (s : Int))).setCell ⟨br, 0, none⟩ (.int .i64 e.x.1)).setCell ⟨br, 1, none⟩ (.int .i64 e.x.2)) := ⟨rfl, rfl, rfl, by simp [World.setCell], fun q hq hn => by rw [heap_setCell_other _ _ q _ hn, heap_setCell_other _ _ q _ hn]⟩
      have FIN : Hid (∃ x C' G', (Ending.returned (.tuple #[.agg #[.int .i64 e.x.1, .int .i64 e.x.2], .bool true])) = Ending.returned (.tuple #[.agg #[.int .i64 x.1, .int .i64 x.2], .bool true]) ∧ HP.Least down C x ∧ HP.At down (((wr.setCell ⟨bp, 1, none⟩ (.int .i64 (s : Int))).setCell ⟨br, 0, none⟩ (.int .i64 e.x.1)).setCell ⟨br, 1, none⟩ (.int .i64 e.x.2)) bp bd C' G' ∧ C.Perm (x :: C') ∧ Fresh G' (blk (some ⟨g, o, none⟩) ++ (F0 ++ (blk e.A ++ F1))) w0 ∧ Keep (· ∈ bp :: (blk (some ⟨g, o, none⟩) ++ (F0 ++ (blk e.A ++ F1)))) w0 (((wr.setCell ⟨bp, 1, none⟩ (.int .i64 (s : Int))).setCell ⟨br, 0, none⟩ (.int .i64 e.x.1)).setCell ⟨br, 1, none⟩ (.int .i64 e.x.2))) := Lib.hid ⟨e.x, C9, H9, rfl, LEA.out, ⟨A, n, c, by
          have q1 := PM.out.length_eq
          have q2 := pm9.length_eq
          simp at q1 q2
          have q3 : (C9.length : Int) = (s : Int) := by omega
          rw [q3]
          exact Arr.far (Arr.far (Arr.set QA.out 1 _) n4 _) n4 _, Arr.far (Arr.far (LEr.out.set QA.out 1 _) (fun q => by subst q; exact arr_ne LEr.out PRr (by decide)) _) (fun q => by subst q; exact arr_ne LEr.out PRr (by decide)) _, bg.same fun b hb => (k2.block b (by have := bg.lt b hb; simpa [World.setCell] using this) (nb b hb)).trans (kk.block b (bg.lt b hb) (hb9 b hb))⟩, PM.out.trans (List.Perm.cons _ pm9.symm), fun b hb => by
          rcases fr9 b hb with q | q
          · exact Or.inl q
          · exact Or.inr (by have := BU.out.size; omega), (((Keep.of_below (F := (· ∈ bp :: (blk (some ⟨g, o, none⟩) ++ (F0 ++ (blk e.A ++ F1))))) BU.out).trans (F' := (· ∈ bp :: (blk (some ⟨g, o, none⟩) ++ (F0 ++ (blk e.A ++ F1))))) (Sub.refl _ _) kp9).trans (F' := (· = bp)) (fun b hb => Or.inl (by subst hb; simp)) kk).trans (F' := (· = br)) (fun b hb => Or.inr (by subst hb; exact hbrl)) k2⟩
      clear pi bg pm9 fr9 kp9 hb9 kk QA LEr LEA PM k2 PXr PRr nb apx
      go_wp2_with fail
      refine ret_pr (b := br) (x := e.x) 2 3 rfl rfl rfl PRf.out rfl ?_
      exact FIN.out
end Go.Proofs.Ytkgjbmlgbfejlaa
