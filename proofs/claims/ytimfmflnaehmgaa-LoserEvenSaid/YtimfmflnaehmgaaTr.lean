/-
  A source is asked, for things of three ints.
-/
import Derived.Test.YtimfmflnaehmgaaTq
namespace Go.Proofs.Ytimfmflnaehmgaa
set_option linter.unusedVariables false
set_option linter.unusedSimpArgs false
set_option maxRecDepth 100000
open Go.RowKit

theorem LT.equal_fin (d t : Nat) (a b : Array TypeId) (c : Bool) (h : Try.prog.underlying t = some (.func a b c)) (fn : Fn) (p q : Array Value) (w : World) : (Op.equalIn (d + 1) t (.func fn p q) .nilFunc).run Try.prog w = .ok false w := by simp [Op.equalIn, run_underlying h]
theorem LT.neq_fnil (fn : Fn) (p q : Array Value) (w : World) : (binOp .neq 47 (.func fn p q) .nilFunc).run Try.prog w = .ok (.bool true) w := by
  have h : ∃ a b c, Try.prog.underlying 47 = some (.func a b c) := ⟨_, _, _, Try.underlying47⟩
  obtain ⟨a, b, c, h⟩ := h
  simp only [binOp]
  simp [Op.equal, Op.maxDepth, LT.equal_fin 9999 _ a b c h fn p q w]
theorem LT.answer_any (B N b i k sc g : Nat) (ss : List Tr) (ps : List Nat) (q : Nat → Nat → Int) (s : Tr) (p : Nat) (w : World) (h : Trs w N ss ps q) (o : TrsOk B ss) (hB : B ≤ w.heap.size) (hs : ss[i]? = some s) (hp : ps[i]? = some p)
    (c1 : w.cell? ⟨b, 1, none⟩ = some (.slice (some ⟨g, 0, none⟩) k sc)) (cg : w.cell? ⟨g, i, none⟩ = some s.v) (blt : b < w.heap.size ∧ g < w.heap.size) (hi : i < k) (hk : k ≤ 1000) :
    Calls Try.prog 38 #[.pointer (some ⟨b, 0, none⟩), .int .i64 i] w fun e w' =>
      e = .returned (.tuple #[.agg (thv ((leftT s p).headD thz)).toArray, .bool (!(leftT s p).isEmpty)]) ∧ Trs w' (N + 1) ss (ps.set i (min (p + 1) s.l.length)) (up q s.pg s.po) ∧ Keep (WrT ss) w w' := by
  have CL := Lib.hid (fun w2 (bb : Below w.heap.size w w2) => Trs.call (i := i) (s := s) (p := p) (w := w2) (h.below o hB bb) o hs hp)
  have EN := LT.neq_fnil
  have i1 : (i : Int) < (k : Int) := by omega
  obtain ⟨w1, hw1⟩ : ∃ W, W = w.alloc (.cells #[.int .i64 0, .int .i64 0, .int .i64 0] 46) := ⟨_, rfl⟩
  obtain ⟨z, hz⟩ : ∃ z, w.heap.size = z := ⟨_, rfl⟩
  have B1 := Lib.hid (show Below w.heap.size w w1 by rw [hw1]; exact (Below.refl _ _).alloc (Nat.le_refl _) _)
  have R1 := Lib.hid (show ThV w1 z thz by rw [hw1, ← hz]; exact Arr.new w _ [_, _, _])
  have d1 : w1.cell? ⟨b, 1, none⟩ = some (.slice (some ⟨g, 0, none⟩) k sc) := by rw [World.cell?_of_block (w := w) (a := ⟨b, 1, none⟩) (B1.out.block b blt.1)]; exact c1
  have dg : w1.cell? ⟨g, i, none⟩ = some s.v := by rw [World.cell?_of_block (w := w) (a := ⟨g, i, none⟩) (B1.out.block g blt.2)]; exact cg
  have O := Lib.hid (fun k (hk : WrT ss k) => Nat.lt_of_lt_of_le (o.wr k hk) hB)
  have OB := Lib.hid o; have HBW := Lib.hid hB
  have HW1 := Lib.hid hw1; have HZ := Lib.hid hz
  clear h o hs hp hw1 hz c1 cg hB
  unfold Tr.v at dg
  rcases hE : leftT s p with _ | ⟨x, r⟩
  · rw [hE] at CL
    have CL2 := Lib.hid (show ∀ w2, Below w.heap.size w w2 → Calls Try.prog 15 _ w2 fun e w' => e = .returned (.tuple #[.agg #[.int .i64 0, .int .i64 0, .int .i64 0], .bool false]) ∧ _ from CL.out)
    clear CL
    go_enter Try.func38, Try.ntmps38
    go_upto_region 1 with fail
    rw [← HW1.out, HZ.out]
    go_wp2_with fail
    refine (CL2.out w1 B1.out).mono ?_
    rintro e w2 ⟨rfl, s2, k2⟩
    have R2 := Lib.hid (show ThV w2 z thz from Arr.same R1.out (k2.block z (by have := Arr.lt R1.out; exact this) (fun e => by have := O.out z e; have := HZ.out; omega)))
    have S2 := Lib.hid s2; have K2 := Lib.hid (show Keep (WrT ss) w w2 from (Keep.of_below (F := WrT ss) B1.out).trans (Sub.refl _ _) k2)
    clear s2 k2
    go_upto_region 7 with fail
    obtain ⟨W, hW⟩ : ∃ W, W = (w2.alloc (.cells #[.int .i64 0, .int .i64 0, .int .i64 0] 46)).alloc (.cells #[.int .i64 0, .int .i64 0, .int .i64 0] 46) := ⟨_, rfl⟩
    rw [← hW]
    have BW := Lib.hid (show Below w2.heap.size w2 W by rw [hW]; exact ((Below.refl _ _).alloc (Nat.le_refl _) _).alloc (by rw [World.size_alloc]; omega) _)
    have RW : ThV W z thz := Arr.below R2.out BW.out
    have RV : ThV W (w2.heap.size + 1) thz := by rw [hW]; exact (by have h := Arr.new (w2.alloc (.cells #[.int .i64 0, .int .i64 0, .int .i64 0] 46)) 46 [.int .i64 0, .int .i64 0, .int .i64 0]; rw [World.size_alloc] at h; exact h)
    have y0 : W.cell? ⟨z, 0, none⟩ = some (.int .i64 0) := Arr.cell RW 0
    have y1 : W.cell? ⟨z, 1, none⟩ = some (.int .i64 0) := Arr.cell RW 1
    have y2 : W.cell? ⟨z, 2, none⟩ = some (.int .i64 0) := Arr.cell RW 2
    have f0 : W.frozen? ⟨z, 0, none⟩ = false := Arr.frozen RW 0
    have f1 : W.frozen? ⟨z, 1, none⟩ = false := Arr.frozen RW 1
    have f2 : W.frozen? ⟨z, 2, none⟩ = false := Arr.frozen RW 2
    have v0 : W.cell? ⟨w2.heap.size + 1, 0, none⟩ = some (.int .i64 0) := Arr.cell RV 0
    have v1 : W.cell? ⟨w2.heap.size + 1, 1, none⟩ = some (.int .i64 0) := Arr.cell RV 1
    have v2 : W.cell? ⟨w2.heap.size + 1, 2, none⟩ = some (.int .i64 0) := Arr.cell RV 2
    have FIN : Hid (Keep (WrT ss) w (thw W z thz) ∧ Trs (thw W z thz) (N + 1) ss (ps.set i (min (p + 1) s.l.length)) (up q s.pg s.po) ∧ ThV (thw W z thz) z thz) := Lib.hid (by
      have kt := thw_keep W z thz
      have ks : Keep (· = z) w2 (thw W z thz) := (Keep.of_below BW.out).trans (Sub.refl _ _) kt
      have hzz := HZ.out
      refine ⟨⟨by rw [ks.os]; exact K2.out.os, by rw [ks.tape]; exact K2.out.tape, by rw [ks.output]; exact K2.out.output, Nat.le_trans K2.out.size ks.size, fun k hk hn => ?_⟩, S2.out.same OB.out (fun k hk => ks.block k (by have := K2.out.size; have := HBW.out; omega) (by have := HBW.out; show k ≠ z; omega)) ks.size, ThV.set RW thz⟩
      rw [ks.block k (by have := K2.out.size; omega) (by show k ≠ z; omega)]
      exact K2.out.block k hk hn)
    have HWW := Lib.hid hW
    clear hW RW RV
    go_wp2_with fail
    refine ret_th 4 5 rfl rfl rfl (b := z) (x := thz) FIN.out.2.2 rfl ?_
    exact ⟨rfl, FIN.out.2.1, FIN.out.1⟩
  · rw [hE] at CL
    have CL2 := Lib.hid (show ∀ w2, Below w.heap.size w w2 → Calls Try.prog 15 _ w2 fun e w' => e = .returned (.tuple #[.agg #[.int .i64 x.1, .int .i64 x.2.1, .int .i64 x.2.2], .bool true]) ∧ _ from CL.out)
    clear CL
    go_enter Try.func38, Try.ntmps38
    go_upto_region 1 with fail
    rw [← HW1.out, HZ.out]
    go_wp2_with fail
    refine (CL2.out w1 B1.out).mono ?_
    rintro e w2 ⟨rfl, s2, k2⟩
    have R2 := Lib.hid (show ThV w2 z thz from Arr.same R1.out (k2.block z (by have := Arr.lt R1.out; exact this) (fun e => by have := O.out z e; have := HZ.out; omega)))
    have S2 := Lib.hid s2; have K2 := Lib.hid (show Keep (WrT ss) w w2 from (Keep.of_below (F := WrT ss) B1.out).trans (Sub.refl _ _) k2)
    clear s2 k2
    go_upto_region 5 with fail
    obtain ⟨W, hW⟩ : ∃ W, W = w2.alloc (.cells #[.int .i64 x.1, .int .i64 x.2.1, .int .i64 x.2.2] 46) := ⟨_, rfl⟩
    rw [← hW]
    have BW := Lib.hid (show Below w2.heap.size w2 W by rw [hW]; exact (Below.refl _ _).alloc (Nat.le_refl _) _)
    have RW : ThV W z thz := Arr.below R2.out BW.out
    have RV : ThV W (w2.heap.size) x := by rw [hW]; exact Arr.new w2 46 [.int .i64 x.1, .int .i64 x.2.1, .int .i64 x.2.2]
    have y0 : W.cell? ⟨z, 0, none⟩ = some (.int .i64 0) := Arr.cell RW 0
    have y1 : W.cell? ⟨z, 1, none⟩ = some (.int .i64 0) := Arr.cell RW 1
    have y2 : W.cell? ⟨z, 2, none⟩ = some (.int .i64 0) := Arr.cell RW 2
    have f0 : W.frozen? ⟨z, 0, none⟩ = false := Arr.frozen RW 0
    have f1 : W.frozen? ⟨z, 1, none⟩ = false := Arr.frozen RW 1
    have f2 : W.frozen? ⟨z, 2, none⟩ = false := Arr.frozen RW 2
    have v0 : W.cell? ⟨w2.heap.size, 0, none⟩ = some (.int .i64 x.1) := Arr.cell RV 0
    have v1 : W.cell? ⟨w2.heap.size, 1, none⟩ = some (.int .i64 x.2.1) := Arr.cell RV 1
    have v2 : W.cell? ⟨w2.heap.size, 2, none⟩ = some (.int .i64 x.2.2) := Arr.cell RV 2
    have FIN : Hid (Keep (WrT ss) w (thw W z x) ∧ Trs (thw W z x) (N + 1) ss (ps.set i (min (p + 1) s.l.length)) (up q s.pg s.po) ∧ ThV (thw W z x) z x) := Lib.hid (by
      have kt := thw_keep W z x
      have ks : Keep (· = z) w2 (thw W z x) := (Keep.of_below BW.out).trans (Sub.refl _ _) kt
      have hzz := HZ.out
      refine ⟨⟨by rw [ks.os]; exact K2.out.os, by rw [ks.tape]; exact K2.out.tape, by rw [ks.output]; exact K2.out.output, Nat.le_trans K2.out.size ks.size, fun k hk hn => ?_⟩, S2.out.same OB.out (fun k hk => ks.block k (by have := K2.out.size; have := HBW.out; omega) (by have := HBW.out; show k ≠ z; omega)) ks.size, ThV.set RW x⟩
      rw [ks.block k (by have := K2.out.size; omega) (by show k ≠ z; omega)]
      exact K2.out.block k hk hn)
    have HWW := Lib.hid hW
    clear hW RW RV
    go_wp2_with fail
    refine ret_th 4 5 rfl rfl rfl (b := z) (x := x) FIN.out.2.2 rfl ?_
    exact ⟨rfl, FIN.out.2.1, FIN.out.1⟩
theorem LT.In.keep {w w' : World} {G F : Nat → Prop} {b : Nat} {fs : List Value} {R : List (List Th)} {L : Lay} (h : LT.In w G b fs R L) (k : Keep F w w') (hF : ∀ x, TF G b L x → ¬ F x) : LT.In w' G b fs R L := by
  have hs := k.size
  exact ⟨Arr.same h.st (k.block b (Arr.lt h.st) (hF _ (Or.inl rfl))), h.src.same (fun a ha => k.block _ (h.src.lt a ha) (hF _ (Or.inr (Or.inr (Or.inr (Or.inl ⟨a, ha, rfl⟩)))))), Arr.same h.hand (k.block _ (Arr.lt h.hand) (hF _ (Or.inr (Or.inl rfl)))), h.nds.keep k (hF _ (Or.inr (Or.inr (Or.inl rfl)))) (fun x hx => hF x (Or.inr (Or.inr (Or.inr (Or.inr hx))))), fun x hx => ⟨by have := (h.gs x hx).1; omega, (h.gs x hx).2⟩, h.len, h.lens, h.fit, h.small, h.ok⟩
theorem LT.In.lt {w : World} {G : Nat → Prop} {b : Nat} {fs : List Value} {R : List (List Th)} {L : Lay} (h : LT.In w G b fs R L) (k : Nat) (hk : TF G b L k) : k < w.heap.size := by
  rcases hk with rfl | rfl | rfl | ⟨a, ha, rfl⟩ | hk
  · exact Arr.lt h.st
  · exact Arr.lt h.hand
  · exact Arr.lt h.nds.arr
  · exact h.src.lt a ha
  · exact (h.gs k hk).1
theorem tvals_len (R : List (List Th)) : (tvals R).length = R.length * 3 := by
  unfold tvals
  induction R with
  | nil => rfl
  | cons r R ih => rw [List.flatMap_cons, List.length_append, ih, List.length_cons]; show 3 + R.length * 3 = _; omega
theorem tvals_set : ∀ (R : List (List Th)) (i : Nat) (u : List Th), i < R.length → tvals (R.set i u) = (((tvals R).set (i * 3) (.int .i64 (u.headD thz).1)).set (i * 3 + 1) (.int .i64 (u.headD thz).2.1)).set (i * 3 + 2) (.int .i64 (u.headD thz).2.2)
  | [], i, u, h => by simp at h
  | r :: R, 0, u, h => rfl
  | r :: R, i + 1, u, h => by
    have ih := tvals_set R i u (by simpa using h)
    have e : ∀ R : List (List Th), tvals (r :: R) = Value.int .i64 (r.headD thz).1 :: .int .i64 (r.headD thz).2.1 :: .int .i64 (r.headD thz).2.2 :: tvals R := fun _ => rfl
    rw [List.set_cons_succ, e, e, ih, show (i + 1) * 3 = i * 3 + 1 + 1 + 1 by omega, show i * 3 + 1 + 1 + 1 + 1 = (i * 3 + 1) + 1 + 1 + 1 by omega, show i * 3 + 1 + 1 + 1 + 2 = (i * 3 + 2) + 1 + 1 + 1 by omega]
    simp only [List.set_cons_succ]
/-- A thing in its place in a row. -/
def thp (w : World) (b i : Nat) (y : Th) : World := ((w.setCell ⟨b, i * 3, none⟩ (.int .i64 y.1)).setCell ⟨b, i * 3 + 1, none⟩ (.int .i64 y.2.1)).setCell ⟨b, i * 3 + 2, none⟩ (.int .i64 y.2.2)
theorem thp_other (w : World) (b i : Nat) (y : Th) (k : Nat) (hn : k ≠ b) : (thp w b i y).heap[k]? = w.heap[k]? := by unfold thp; rw [heap_setCell_other _ _ k _ hn, heap_setCell_other _ _ k _ hn, heap_setCell_other _ _ k _ hn]
theorem thp_keep (w : World) (b i : Nat) (y : Th) : Keep (· = b) w (thp w b i y) := ⟨rfl, rfl, rfl, by simp [thp, World.setCell], fun k _ hn => thp_other w b i y k hn⟩
theorem thp_size (w : World) (b i : Nat) (y : Th) : (thp w b i y).heap.size = w.heap.size := by simp [thp, World.setCell]
/-- What source i has at hand turns. -/
theorem LT.In.hset {w : World} {G : Nat → Prop} {b : Nat} {fs : List Value} {R : List (List Th)} {L : Lay} (h : LT.In w G b fs R L) (i : Nat) (hi : i < R.length) (u : List Th) : LT.In (thp w L.hb i (u.headD thz)) G b fs (R.set i u) L := by
  have n1 : b ≠ L.hb := arr_ne h.st h.hand (by decide)
  have n2 : L.nb ≠ L.hb := arr_ne h.nds.arr h.hand (by decide)
  have kp := thp_keep w L.hb i (u.headD thz)
  have hl : (R.set i u).length = R.length := List.length_set ..
  refine ⟨?_, h.src.same (fun a ha => kp.block _ (h.src.lt a ha) (src_ne h.src h.hand (by decide) a ha)), ?_, h.nds.keep kp n2 (fun k hk => (h.gs k hk).2.2.1), fun k hk => ⟨by rw [thp_size]; exact (h.gs k hk).1, (h.gs k hk).2⟩, h.len, by rw [hl]; exact h.lens, by rw [hl]; exact h.fit, h.small, by rw [hl]; exact h.ok⟩
  · rw [hl]; exact Arr.same h.st (thp_other w _ _ _ _ n1)
  · rw [tvals_set R i u hi]; exact Arr.set (Arr.set (Arr.set h.hand _ _) _ _) _ _
/-- One source less has something at hand. -/
theorem LT.In.lset {w : World} {G : Nat → Prop} {b : Nat} {fs : List Value} {R : List (List Th)} {L : Lay} (h : LT.In w G b fs R L) (v : Nat) : LT.In (w.setCell ⟨b, 3, none⟩ (.int .i64 (v : Int))) G b fs R { L with lv := v } := by
  have n1 : L.hb ≠ b := arr_ne h.hand h.st (by decide)
  have n2 : L.nb ≠ b := arr_ne h.nds.arr h.st (by decide)
  have kp : Keep (· = b) w (w.setCell ⟨b, 3, none⟩ (.int .i64 (v : Int))) := ⟨rfl, rfl, rfl, by simp [World.setCell], fun k _ hn => heap_setCell_other w _ k _ hn⟩
  refine ⟨?_, h.src.other (fun a ha => src_ne h.src h.st (by decide) a ha) _, Arr.far h.hand n1 _, h.nds.keep kp n2 (fun k hk => (h.gs k hk).2.1), fun k hk => ⟨by simpa [World.setCell] using (h.gs k hk).1, (h.gs k hk).2⟩, h.len, h.lens, h.fit, h.small, h.ok⟩
  exact Arr.set h.st 3 _
end Go.Proofs.Ytimfmflnaehmgaa
