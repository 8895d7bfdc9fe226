/-
  The contracts of package heap's New, Len, Top, Push, Pop, for things of ints.
-/
import Derived.Test.YtkgjbmlgbfejlaaHiS
import Derived.Test.YtkgjbmlgbfejlaaHb
namespace Go.Proofs.Ytkgjbmlgbfejlaa
set_option linter.unusedVariables false
set_option linter.unusedSimpArgs false
set_option maxRecDepth 100000
open Go.RowKit

theorem HI.Less.keepH {w w' : World} {bd bp : Nat} {vs : List Value} {G : List Nat} (h : HI.Less w bd) (a : Arr w bp 59 vs) (k : Keep (· ∈ bp :: G) w w') (hk : ∀ b, b ∈ G → ∃ cur, w.heap[b]? = some (.cells cur HI.K.T (0, 0))) : HI.Less w' bd := trivial
/-- A heap of the things C, its struct in block bp, all else in the blocks G. -/
def HI.At (w : World) (bp bd : Nat) (C : List Int) (G : List Nat) : Prop := ∃ A n c, Arr w bp 59 [HI.fv bd, .int .i64 (C.length : Int), .slice A n c] ∧ HI.Less w bd ∧ Bag HI.K w A n c C G
theorem HI.At.keep {w w' : World} {bp bd : Nat} {C : List Int} {G : List Nat} {F : Nat → Prop} (h : HI.At w bp bd C G) (k : Keep F w w') (h1 : ¬ F bp) (h2 : ∀ b, b ∈ G → ¬ F b) (h3 : F bd → ¬ (∃ cur, w.heap[bd]? = some (.cells cur HI.K.T (0, 0))) → False) : HI.At w' bp bd C G := by
  obtain ⟨A, n, c, q1, q2, q3⟩ := h
  exact ⟨A, n, c, Arr.keep q1 k h1, q2.keep k h3, q3.same fun b hb => k.block b (q3.lt b hb) (h2 b hb)⟩
theorem HI.At.below {w w' : World} {bp bd : Nat} {C : List Int} {G : List Nat} (h : HI.At w bp bd C G) (k : Below w.heap.size w w') : HI.At w' bp bd C G := by
  obtain ⟨A, n, c, q1, q2, q3⟩ := h
  exact ⟨A, n, c, Arr.below q1 k, q2.below k, q3.below k⟩
theorem HI.At.ne {w : World} {bp bd : Nat} {C : List Int} {G : List Nat} (h : HI.At w bp bd C G) : bp < w.heap.size ∧ bp ∉ G ∧ ∀ b, b ∈ G → b < w.heap.size ∧ ∃ cur, w.heap[b]? = some (.cells cur HI.K.T (0, 0)) := by
  obtain ⟨A, n, c, q1, q2, q3⟩ := h
  refine ⟨Arr.lt q1, fun q => ?_, fun b hb => ⟨q3.lt b hb, q3.kind b hb⟩⟩
  obtain ⟨cu, q4⟩ := q3.kind bp q
  exact arr_ne q1 q4 (by decide)
theorem HI.equal_fin (d t : Nat) (a b : Array TypeId) (c : Bool) (h : Try.prog.underlying t = some (.func a b c)) (fn : Fn) (p q : Array Value) (w : World) : (Op.equalIn (d + 1) t (.func fn p q) .nilFunc).run Try.prog w = .ok false w := by simp [Op.equalIn, run_underlying h]
theorem HI.eql_fnil (fn : Fn) (p q : Array Value) (w : World) : (binOp .eql 24 (.func fn p q) .nilFunc).run Try.prog w = .ok (.bool false) w := by
  have h : ∃ a b c, Try.prog.underlying 24 = some (.func a b c) := ⟨_, _, _, Try.underlying24⟩
  obtain ⟨a, b, c, h⟩ := h
  simp only [binOp]
  simp [Op.equal, Op.maxDepth, HI.equal_fin 9999 _ a b c h fn p q w]
theorem HI.new_any (bd : Nat) (w : World) (hq : HI.Less w bd) : Calls Try.prog 8 #[HI.fv bd] w fun e w' => e = .returned (.pointer (some ⟨w.heap.size, 0, none⟩)) ∧ HI.At w' w.heap.size bd [] [] ∧ Below w.heap.size w w' ∧ w'.heap.size = w.heap.size + 1 := by
  have HQ := Lib.hid hq
  clear hq
  have EN := HI.eql_fnil
  unfold HI.fv
  go_enter Try.func8, Try.ntmps8
  go_wp2
  go_ret
  refine ⟨rfl, ⟨none, 0, 0, ?_, HQ.out.below ((Below.refl _ _).alloc (Nat.le_refl _) _), Bag.nil _ _⟩, (Below.refl _ _).alloc (Nat.le_refl _) _, by simp⟩
  exact Arr.new w _ [_, _, _]
theorem HI.len_any (bp bd : Nat) (C : List Int) (G : List Nat) (w : World) (h : HI.At w bp bd C G) : Calls Try.prog 13 #[.pointer (some ⟨bp, 0, none⟩)] w fun e w' => e = .returned (.int .i64 (C.length : Int)) ∧ w = w' := by
  obtain ⟨A, n, c, q1, q2, q3⟩ := h
  have c1 : w.cell? ⟨bp, 1, none⟩ = some (.int .i64 (C.length : Int)) := Arr.cell q1 1
  obtain ⟨m, hm⟩ : ∃ m, C.length = m := ⟨_, rfl⟩
  rw [hm] at c1 ⊢
  clear q1 q2 q3 hm
  go_enter Try.func13, Try.ntmps13
  go_wp2
  go_ret
  exact ⟨rfl, rfl⟩
/-- What Top and Pop answer. -/
def HI.Least (C : List Int) (x : Int) : Prop := x ∈ C ∧ ∀ y, y ∈ C → HI.K.key x ≤ HI.K.key y
theorem HI.top_none (bp bd : Nat) (G : List Nat) (w : World) (h : HI.At w bp bd [] G) : Calls Try.prog 14 #[.pointer (some ⟨bp, 0, none⟩)] w fun e w' => e = .returned (.tuple #[.int .i64 0, .bool false]) ∧ Below w.heap.size w w' := by
  obtain ⟨A, n, c, q1, q2, q3⟩ := h
  have c1 : w.cell? ⟨bp, 1, none⟩ = some (.int .i64 0) := Arr.cell q1 1
  clear q1 q2 q3
  go_enter Try.func14, Try.ntmps14
  go_wp2
  go_ret2
  exact ⟨rfl, Below.refl _ _⟩
theorem HI.top_at (bp bd m c s g o : Nat) (e : En Int) (w : World) (q1 : Arr w bp 59 [HI.fv bd, .int .i64 ((s + 1 : Nat) : Int), .slice (some ⟨g, o, none⟩) (m + 1) c]) (hra : w.rangeAt g (o + m * (HI.K.z + 1)) (En.v HI.K e)) (hm : m ≤ 1000) : Calls Try.prog 14 #[.pointer (some ⟨bp, 0, none⟩)] w (fun e9 w' => e9 = .returned (.tuple #[.int .i64 e.x, .bool true]) ∧ Below w.heap.size w w') := by
  have c1 : w.cell? ⟨bp, 1, none⟩ = some (.int .i64 ((s : Int) + 1)) := Arr.cell q1 1
  have c2 : w.cell? ⟨bp, 2, none⟩ = some (.slice (some ⟨g, o, none⟩) (m + 1) c) := Arr.cell q1 2
  have f0 : w.cell? ⟨g, o + m * 2, none⟩ = some (.int .i64 e.x) := hra 0 _ rfl
  have d0 : decide ((s : Int) + 1 = 0) = false := by rw [decide_eq_false_iff_not]; omega
  have d3 : IntKind.i64.wrap ((m : Int) + 1 - 1) = (m : Int) := by rw [IntWalk.i64_in _ (by omega)]; omega
  have d4 : (m : Int) < (m : Int) + 1 := by omega
  have d6 : (0 : Int) ≤ (m : Int) := by omega
  have d8 : ((s : Int) + 1 == 0) = false := by rw [beq_eq_false_iff_ne]; omega
  clear q1 hra
  go_enter Try.func14, Try.ntmps14
  go_wp2
  go_quiet (fail)
  go_wp2
  go_ret2
  exact ⟨rfl, belowN w _⟩
theorem HI.top_any (bp bd : Nat) (C : List Int) (G : List Nat) (w : World) (h : HI.At w bp bd C G) (hc : C ≠ []) (hs : C.length ≤ 1000) : Calls Try.prog 14 #[.pointer (some ⟨bp, 0, none⟩)] w (fun e w' => ∃ x, e = .returned (.tuple #[.int .i64 x, .bool true]) ∧ HI.Least C x ∧ Below w.heap.size w w') := by
  obtain ⟨A, n, c, q1, q2, q3⟩ := h
  have hz := q3.zero
  have hn := q3.small
  obtain ⟨m, rfl⟩ : ∃ m, n = m + 1 := ⟨n - 1, by have : n ≠ 0 := fun e => hc (hz.1 e); omega⟩
  obtain ⟨l, F, e, es, C0, C1, F0, F1, g, o, rfl, _, v1, he, hra, hmin, pm, _⟩ := q3.last
  obtain ⟨s, hs2⟩ : ∃ s, C.length = s + 1 := ⟨C.length - 1, by omega⟩
  rw [hs2] at q1
  exact (HI.top_at bp bd m c s g o e w q1 hra (by omega)).mono fun e9 w' q => ⟨e.x, q.1, ⟨pm.symm.subset (by simp), hmin⟩, q.2⟩
set_option maxHeartbeats 2000000 in
theorem HI.push_any (bp bd : Nat) (C : List Int) (G : List Nat) (x : Int) (w : World) (h : HI.At w bp bd C G) (hs : C.length < 1000) : Calls Try.prog 10 #[.pointer (some ⟨bp, 0, none⟩), .int .i64 x] w fun e w' => e = .returned (.tuple #[]) ∧ ∃ C' G', HI.At w' bp bd C' G' ∧ C'.Perm (C ++ [x]) ∧ Fresh G' G w ∧ Keep (· ∈ bp :: G) w w' := by
  obtain ⟨hbl, hbG, hk⟩ := h.ne
  obtain ⟨A, n, c, q1, q2, q3⟩ := h
  have q30 := q3
  obtain ⟨l, F, hG, v1, f1, d1, nd⟩ := q3
  have LAY := Lib.hid (HI.lay_any bp bd n c C.length A A n c l x none 0 0 C F [x] [] w q1 q2 v1 f1 (Fo.leaf _ _ _) (by simpa using nd) d1 (by simp; omega))
  have c2 : w.cell? ⟨bp, 2, none⟩ = some (.slice A n c) := Arr.cell q1 2
  have Q1 := Lib.hid q1; have Q2 := Lib.hid q2; have Q3 := Lib.hid q30; have HG := Lib.hid hG; have BG := Lib.hid hbG; have HK := Lib.hid hk
  clear q1 q2 q30 hG v1 f1 d1 nd hbG hk
  go_enter Try.func10, Try.ntmps10
  go_wp2_with fail
  refine LAY.out.mono ?_
  intro e w1 hL
  obtain ⟨A', n', c', C', G', rfl, bg, pm, fr, kp⟩ := Bag.laid hL
  rw [List.append_nil, ← HG.out] at fr kp
  have a1 : Arr w1 bp _ _ := Arr.keep Q1.out kp BG.out
  have l1 := Q2.out.keep kp (fun q hq => hq (HK.out bd q).2)
  have hG1 : ∀ b, b ∈ G' → b ≠ bp := fun b hb e1 => by
    subst e1
    rcases fr b hb with q | q
    · exact BG.out q
    · omega
  have a2 := Arr.set a1 2 (.slice A' n' c')
  have a3 := Arr.set a2 1 (.int .i64 ((C.length : Int) + 1))
  have kf : Keep (· = bp) w1 ((w1.setCell ⟨bp, 2, none⟩ (.slice A' n' c')).setCell ⟨bp, 1, none⟩ (.int .i64 ((C.length : Int) + 1))) := ⟨rfl, rfl, rfl, by simp [World.setCell], fun q hq hn => by rw [heap_setCell_other _ _ q _ hn, heap_setCell_other _ _ q _ hn]⟩
  have FIN : Hid (∃ C' G', HI.At ((w1.setCell ⟨bp, 2, none⟩ (.slice A' n' c')).setCell ⟨bp, 1, none⟩ (.int .i64 ((C.length : Int) + 1))) bp bd C' G' ∧ C'.Perm (C ++ [x]) ∧ Fresh G' G w ∧ Keep (· ∈ bp :: G) w ((w1.setCell ⟨bp, 2, none⟩ (.slice A' n' c')).setCell ⟨bp, 1, none⟩ (.int .i64 ((C.length : Int) + 1)))) := Lib.hid ⟨C', G', ⟨A', n', c', by
      have e1 : (C'.length : Int) = (C.length : Int) + 1 := by have := pm.length_eq; simp at this; omega
      rw [e1]
      exact a3, (l1.set a1 2 _).set a2 1 _, bg.same fun b hb => kf.block b (bg.lt b hb) (hG1 b hb)⟩, pm, fr, (show Keep (· ∈ bp :: G) w w1 from ⟨kp.os, kp.tape, kp.output, kp.size, fun k hk hn => kp.block k hk (fun q => hn (by simp [q]))⟩).trans (F' := (· = bp)) (fun b hb => Or.inl (by subst hb; simp)) kf⟩
  have b1 : w1.cell? ⟨bp, 1, none⟩ = some (.int .i64 (C.length : Int)) := Arr.cell a1 1
  have b2 : w1.cell? ⟨bp, 2, none⟩ = some (.slice A n c) := Arr.cell a1 2
  have b3 : w1.frozen? ⟨bp, 1, none⟩ = false := Arr.frozen a1 1
  have b4 : w1.frozen? ⟨bp, 2, none⟩ = false := Arr.frozen a1 2
  clear a1 l1 hG1 a2 a3 kf kp fr pm bg hL
  obtain ⟨m, hm⟩ : ∃ m, C.length = m := ⟨_, rfl⟩
  rw [hm] at b1 FIN hs
  clear hm
  go_wp2_with fail
  go_end0
  exact ⟨rfl, FIN.out⟩
set_option maxHeartbeats 4000000 in
theorem HI.pop_none (bp bd : Nat) (G : List Nat) (w : World) (h : HI.At w bp bd [] G) : Calls Try.prog 11 #[.pointer (some ⟨bp, 0, none⟩)] w fun e w' => e = .returned (.tuple #[.int .i64 0, .bool false]) ∧ Below w.heap.size w w' := by
  have T := Lib.hid (HI.top_none bp bd G w h)
  clear h
  go_enter Try.func11, Try.ntmps11
  go_wp2_with fail
  refine T.out.mono ?_
  rintro e w1 ⟨rfl, b1⟩
  have B1 := Lib.hid b1
  clear b1
  go_wp2_with fail
  go_ret2
  exact ⟨rfl, B1.out⟩
set_option maxHeartbeats 4000000 in
theorem HI.pop_any (bp bd : Nat) (C : List Int) (G : List Nat) (w : World) (h : HI.At w bp bd C G) (hc : C ≠ []) (hs : C.length ≤ 1000) : Calls Try.prog 11 #[.pointer (some ⟨bp, 0, none⟩)] w fun e w' => ∃ x C' G', e = .returned (.tuple #[.int .i64 x, .bool true]) ∧ HI.Least C x ∧ HI.At w' bp bd C' G' ∧ C.Perm (x :: C') ∧ Fresh G' G w ∧ Keep (· ∈ bp :: G) w w' := by
  obtain ⟨hbl, hbG, hk⟩ := h.ne
  obtain ⟨A, n, c, q1, q2, q3⟩ := h
  have hz := q3.zero
  have hn := q3.small
  obtain ⟨m, rfl⟩ : ∃ m, n = m + 1 := ⟨n - 1, by have : n ≠ 0 := fun e => hc (hz.1 e); omega⟩
  have hlt := q3.lt
  obtain ⟨l, F, e, es, C0, C1, F0, F1, g, o, rfl, hG, v1, he, hra, hmin, pm, hF, f0, d0, ve, fe, nd⟩ := q3.last
  subst hF
  subst hG
  obtain ⟨s, hs2⟩ : ∃ s, C.length = s + 1 := ⟨C.length - 1, by omega⟩
  rw [hs2] at q1
  have hpl := pm.length_eq
  simp at hpl
  have T := Lib.hid (HI.top_at bp bd m c s g o e w q1 hra (by omega))
  have DE := Lib.hid (fun w1 (b : Below w.heap.size w w1) => HI.del_any (some ⟨g, o, none⟩) (m + 1) c m l w1 (v1.below b) (by omega) (by omega))
  have hec := ve.cap
  have hel := ve.len
  have hel2 := fe.len
  have VE := Lib.hid ve; have FE := Lib.hid fe; have ND := Lib.hid nd; have F00 := Lib.hid f0; have D0 := Lib.hid d0; have Q1 := Lib.hid q1; have Q2 := Lib.hid q2; have RA := Lib.hid hra; have LT := Lib.hid hlt; have KI := Lib.hid hk
  have BG := Lib.hid hbG
  have LEA : Hid (HI.Least C e.x) := Lib.hid ⟨pm.symm.subset (by simp), hmin⟩
  have PM := Lib.hid pm
  have hen : e.n ≤ 1000 := by omega
  have hmi : (m : Int) ≤ 1000 := by omega
  have hmn : m ≤ 1000 := by omega
  have hsb : s ≤ 1000 := by omega
  have HC1 : Hid (C1.length ≤ 1000 ∧ C0.length + C1.length ≤ 999) := Lib.hid (by omega)
  have dd : ((m + 1 : Nat) : Int) = (m : Int) + 1 := by omega
  rw [dd] at DE
  clear dd ve fe nd f0 d0 q1 q2 q3 hra hlt hk hbG hmin pm hz hn he v1 hc hs hel hel2 hpl hec
  go_enter Try.func11, Try.ntmps11
  go_wp2_with fail
  refine T.out.mono ?_
  rintro e1 w1 ⟨rfl, b1⟩
  have Q1' := Lib.hid (Arr.below Q1.out b1)
  have c2 : w1.cell? ⟨bp, 2, none⟩ = some (.slice (some ⟨g, o, none⟩) (m + 1) c) := Arr.cell Q1'.out 2
  have hgl : g < w.heap.size := LT.out g (by simp [blk])
  have RA1 : Hid (w1.rangeAt g (o + m * (HI.K.z + 1)) (En.v HI.K e)) := Lib.hid (fun j v hv => by rw [b1.cell (p := ⟨g, o + m * (HI.K.z + 1) + j, none⟩) hgl]; exact RA.out j v hv)
  have fa : w1.cell? ⟨g, o + m * (1 + 1) + 1, none⟩ = some (.slice e.A e.n e.c) := RA1.out 1 _ rfl
  have d4 : (m : Int) < (m : Int) + 1 := by omega
  have d6 : (0 : Int) ≤ (m : Int) := by omega
  have B1 := Lib.hid b1
  clear b1
  go_wp2_with fail
  refine (DE.out w1 B1.out).mono ?_
  rintro e2 wd ⟨rfl, vd, kd, od⟩
  have hbg : Hid (bp ∉ blk (some ⟨g, o, none⟩)) := Lib.hid (fun q => BG.out (by simp [q]))
  have Qd := Lib.hid (Arr.keep Q1'.out kd hbg.out)
  have c20 : wd.cell? ⟨bp, 2, none⟩ = some (.slice (some ⟨g, o, none⟩) (m + 1) c) := Arr.cell Qd.out 2
  have c2f : wd.frozen? ⟨bp, 2, none⟩ = false := Arr.frozen Qd.out 2
  have Q2d : Hid (HI.Less wd bd) := Lib.hid ((Q2.out.below B1.out).keep kd (fun q hq => hq (by
    obtain ⟨cu, q5⟩ := KI.out bd (by simp [q]) |>.2
    exact ⟨cu, by rw [B1.out.block bd (KI.out bd (by simp [q])).1]; exact q5⟩)))
  have Q3 : Hid (Arr (wd.setCell ⟨bp, 2, none⟩ (.slice (some ⟨g, o, none⟩) m c)) bp 59 [HI.fv bd, .int .i64 ((s + 1 : Nat) : Int), .slice (some ⟨g, o, none⟩) m c]) := Lib.hid (Arr.set Qd.out 2 _)
  have Q23 := Lib.hid (Q2d.out.set Qd.out 2 (.slice (some ⟨g, o, none⟩) m c))
  have far : Hid (∀ b, b ∈ blk e.A ++ F1 → (wd.setCell ⟨bp, 2, none⟩ (.slice (some ⟨g, o, none⟩) m c)).heap[b]? = w.heap[b]?) := Lib.hid (fun b hb => by
    have hbG : b ∈ blk (some ⟨g, o, none⟩) ++ (F0 ++ (blk e.A ++ F1)) := by simp at hb ⊢; rcases hb with q | q <;> simp [q]
    rw [heap_setCell_other wd _ b _ (fun e5 => BG.out (by have e5 : b = bp := e5; rw [← e5]; exact hbG)), kd.block b (by have := LT.out b hbG; have := B1.out.size; omega) (fun q => (List.nodup_append.1 ND.out).2.2 b q b (by simp at hb ⊢; rcases hb with q | q <;> simp [q]) rfl), B1.out.block b (LT.out b hbG)])
  have VE3 := Lib.hid (VE.out.same fun b hb => far.out b (by simp [hb]))
  have FE3 := Lib.hid (FE.out.same fun b hb => far.out b (by simp [hb]))
  have ND3 : Hid ((blk e.A ++ F1).Nodup) := Lib.hid (List.nodup_append.1 (List.nodup_append.1 ND.out).2.1).2.1
  have SE := Lib.hid (HI.settle_any bp bd m c ((s + 1 : Nat) : Int) (some ⟨g, o, none⟩) e.n e.A e.n e.c es C1 F1 _ (Nat.le_refl _) Q3.out Q23.out VE3.out FE3.out ND3.out HC1.out.1)
  have VD := Lib.hid vd; have KD := Lib.hid kd
  clear vd kd od c2 fa DE T
  go_wp2_with fail
  refine SE.out.mono ?_
  intro e3 w4 st
  obtain ⟨n3, l3, rfl, hl3, hn3, k4, pi⟩ := PopI.start B1.out KD.out VD.out F00.out D0.out ND.out LT.out hbl BG.out st
  have Q4 := Lib.hid (Arr.keep Q3.out k4 (fun q => BG.out (by simp at q ⊢; rcases q with q | q <;> simp [q])))
  have PI := Lib.hid pi; have HL3 := Lib.hid hl3
  clear st k4 pi hl3 c20 c2f Qd Q2d Q3 Q23 far VE3 FE3 SE VD KD
  go_wp2_with fail
  go_loopw [9, 47] (fun _ jv wr => ∃ (j : Nat) (A : Option Addr) (n c : Nat), j ≤ n3 ∧ jv = .int .i64 j ∧ Arr wr bp 59 [HI.fv bd, .int .i64 ((s + 1 : Nat) : Int), .slice A n c] ∧ PopI HI.K w (blk (some ⟨g, o, none⟩) ++ (F0 ++ (blk e.A ++ F1))) bp (C0 ++ C1) e.A n3 e.c l3 wr j A n c) (fun _ jv _ => n3 - (intOf jv).toNat)
  case atStart => exact ⟨0, _, _, _, Nat.zero_le _, rfl, Q4.out, PI.out⟩
  case round =>
    clear Q4 PI
    obtain ⟨j, A, n, c, hj, rfl, qa, pi⟩ := hrel
    have QA := Lib.hid qa
    have r1 : wr.cell? ⟨bp, 1, none⟩ = some (.int .i64 ((s : Int) + 1)) := Arr.cell qa 1
    have r2 : wr.cell? ⟨bp, 2, none⟩ = some (.slice A n c) := Arr.cell qa 2
    have rf1 : wr.frozen? ⟨bp, 1, none⟩ = false := Arr.frozen qa 1
    have rf2 : wr.frozen? ⟨bp, 2, none⟩ = false := Arr.frozen qa 2
    have hbw := Arr.lt qa
    have LEr := Lib.hid (HI.Less.keepH Q2.out Q1.out pi.keep (fun b hb => (KI.out b hb).2))
    clear qa
    by_cases hlt : j < n3
    · have i1 : decide ((j : Int) < (n3 : Int)) = true := by rw [decide_eq_true_eq]; omega
      have bj : (j : Int) < (n3 : Int) := by omega
      obtain ⟨f, hf⟩ : ∃ f, l3[j]? = some f := ⟨_, List.getElem?_eq_getElem (by rw [HL3.out]; exact hlt)⟩
      obtain ⟨g2, o2, hA2, hgl2, hra2, _⟩ := pi.row.at hf
      have HA2 := Lib.hid hA2; have HF2 := Lib.hid hf; have PI := Lib.hid pi
      have r3 : wr.cell? ⟨g2, o2 + j * 2, none⟩ = some (.int .i64 f.x) := hra2 0 _ rfl; have r4 : wr.cell? ⟨g2, o2 + j * 2 + 1, none⟩ = some (.slice f.A f.n f.c) := hra2 1 _ rfl
      clear hf hra2 pi
      have BA : Hid (Below wr.heap.size wr ((wr.alloc (.cells #[.int .i64 f.x, .slice f.A f.n f.c] 62)).drew)) := Lib.hid (((Below.refl _ _).alloc (Nat.le_refl _) _).drew)
      obtain ⟨l5, C5, F5, Ct5, Ft5, s1, s2, s3, s4, s5, s6, s7, s8⟩ := PopI.split (PI.out.below BA.out) HF2.out hbl BG.out
      have QA5 := Lib.hid (Arr.below QA.out BA.out)
      have LAY := Lib.hid (HI.lay_any bp bd n c ((s + 1 : Nat) : Int) A A n c l5 f.x f.A f.n f.c C5 F5 Ct5 Ft5 _ QA5.out (LEr.out.below BA.out) s1 s2 s4 s5 s3 (by have := HC1.out; simp at s6; omega))
      have NX := Lib.hid s8; have NB := Lib.hid s7
      clear s1 s2 s3 s4 s5 s6 s7 s8 PI
      have HA3 : e.A = some ⟨g2, o2, none⟩ := HA2.out
      rw [HA3]
      clear HA3
      go_upto_region 10 with fail
      go_region_law (go_simp; go_at_call 26; refine LAY.out.mono ?_; intro e8 w8 hl8; obtain ⟨A8, n8, c8, he8, k8, nx8⟩ := NX.out w8 e8 hl8; subst he8; have Q8 := Lib.hid (Arr.keep QA5.out k8 (fun q => NB.out bp q rfl)); have x2 : w8.cell? ⟨bp, 2, none⟩ = some (.slice A n c) := Arr.cell Q8.out 2; have xf : w8.frozen? ⟨bp, 2, none⟩ = false := Arr.frozen Q8.out 2; have N8 := Lib.hid (nx8 2 (.slice A8 n8 c8)); have R8 := Lib.hid (Arr.set Q8.out 2 (.slice A8 n8 c8)); clear hl8 k8 nx8)
      all_goals
        go_wp2_with fail
        go_roundw
        case rel => exact ⟨j + 1, A8, n8, c8, by omega, by go_num, R8.out, by have q := N8.out; rw [HA2.out] at q; exact q⟩
        case measure => simp [intOf]; omega
    · obtain rfl : j = n3 := by omega
      have i1 : decide ((j : Int) < (j : Int)) = false := by simp
      obtain ⟨C9, H9, bg, pm9, fr9, kp9, hb9⟩ := PopI.fin pi HL3.out hbl BG.out
      have hsi : (s : Int) ≤ 1000 := by omega
      have kk : Keep (· = bp) wr (wr.setCell ⟨bp, 1, none⟩ (.int .i64 (s : Int))) := ⟨rfl, rfl, rfl, by simp [World.setCell], fun q hq hn => heap_setCell_other wr _ q _ hn⟩
      have FIN : Hid (∃ x C' G', (Ending.returned (.tuple #[.int .i64 e.x, .bool true])) = Ending.returned (.tuple #[.int .i64 x, .bool true]) ∧ HI.Least C x ∧ HI.At (wr.setCell ⟨bp, 1, none⟩ (.int .i64 (s : Int))) bp bd C' G' ∧ C.Perm (x :: C') ∧ Fresh G' (blk (some ⟨g, o, none⟩) ++ (F0 ++ (blk e.A ++ F1))) w ∧ Keep (· ∈ bp :: (blk (some ⟨g, o, none⟩) ++ (F0 ++ (blk e.A ++ F1)))) w (wr.setCell ⟨bp, 1, none⟩ (.int .i64 (s : Int)))) := Lib.hid ⟨e.x, C9, H9, rfl, LEA.out, ⟨A, n, c, by
          have q1 := PM.out.length_eq
          have q2 := pm9.length_eq
          simp at q1 q2
          have q3 : (C9.length : Int) = (s : Int) := by omega
          rw [q3]
          exact Arr.set QA.out 1 _, LEr.out.set QA.out 1 _, bg.same fun b hb => kk.block b (bg.lt b hb) (hb9 b hb)⟩, PM.out.trans (List.Perm.cons _ pm9.symm), fr9, kp9.trans (F' := (· = bp)) (fun b hb => Or.inl (by subst hb; simp)) kk⟩
      clear pi bg pm9 fr9 kp9 hb9 kk QA LEr LEA PM
      go_wp2_with fail
      go_ret2
      exact FIN.out
end Go.Proofs.Ytkgjbmlgbfejlaa
