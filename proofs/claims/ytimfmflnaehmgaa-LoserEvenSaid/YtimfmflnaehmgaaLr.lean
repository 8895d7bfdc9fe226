/-
  A source is asked: the contracts of answer and ask, for things of ints.
-/
import Derived.Test.YtimfmflnaehmgaaLq
namespace Go.Proofs.Ytimfmflnaehmgaa
set_option linter.unusedVariables false
set_option linter.unusedSimpArgs false
set_option maxRecDepth 100000
open Go.RowKit

theorem LI.equal_fin (d t : Nat) (a b : Array TypeId) (c : Bool) (h : Try.prog.underlying t = some (.func a b c)) (fn : Fn) (p q : Array Value) (w : World) : (Op.equalIn (d + 1) t (.func fn p q) .nilFunc).run Try.prog w = .ok false w := by simp [Op.equalIn, run_underlying h]
theorem LI.neq_fnil (fn : Fn) (p q : Array Value) (w : World) : (binOp .neq 25 (.func fn p q) .nilFunc).run Try.prog w = .ok (.bool true) w := by
  have h : ∃ a b c, Try.prog.underlying 25 = some (.func a b c) := ⟨_, _, _, Try.underlying25⟩
  obtain ⟨a, b, c, h⟩ := h
  simp only [binOp]
  simp [Op.equal, Op.maxDepth, LI.equal_fin 9999 _ a b c h fn p q w]
theorem LI.answer_any (B N b i k sc g : Nat) (ss : List Sr) (ps : List Nat) (q : Nat → Nat → Int) (s : Sr) (p : Nat) (w : World) (h : Srs w N ss ps q) (o : SrsOk B ss) (hB : B ≤ w.heap.size) (hs : ss[i]? = some s) (hp : ps[i]? = some p) (hN : N ≤ 1000000000)
    (c1 : w.cell? ⟨b, 1, none⟩ = some (.slice (some ⟨g, 0, none⟩) k sc)) (cg : w.cell? ⟨g, i, none⟩ = some s.v) (hi : i < k) (hk : k ≤ 1000) :
    Calls Try.prog 33 #[.pointer (some ⟨b, 0, none⟩), .int .i64 i] w fun e w' =>
      e = .returned (.tuple #[.int .i64 ((left_ s p).headD 0), .bool (!(left_ s p).isEmpty)]) ∧ Srs w' (N + 1) ss (ps.set i (min (p + 1) s.l.length)) (up q s.pg s.po) ∧ Keep (Wr ss) w w' := by
  have CL := Lib.hid (fun w2 (bb : Below w.heap.size w w2) => Srs.call (i := i) (s := s) (p := p) (w := w2) (h.below o hB bb) o hs hp hN)
  have O := Lib.hid o
  have EN := LI.neq_fnil
  have i1 : (i : Int) < (k : Int) := by omega
  clear h o hs hp
  unfold Sr.v at cg
  rcases hE : left_ s p with _ | ⟨x, r⟩
  · rw [hE] at CL
    have CL2 := Lib.hid (show ∀ w2, Below w.heap.size w w2 → Calls Try.prog 23 _ w2 fun e w' => e = .returned (.tuple #[.int .i64 0, .bool false]) ∧ _ from CL.out)
    clear CL
    go_enter Try.func33, Try.ntmps33
    go_wp2_with fail
    refine (CL2.out w (Below.refl _ _)).mono ?_
    rintro e w2 ⟨rfl, s2, k2⟩
    have S2 := Lib.hid s2; have K2 := Lib.hid k2
    clear s2 k2
    go_wp2_with fail
    go_ret2
    exact ⟨rfl, S2.out, K2.out⟩
  · rw [hE] at CL
    have CL2 := Lib.hid (show ∀ w2, Below w.heap.size w w2 → Calls Try.prog 23 _ w2 fun e w' => e = .returned (.tuple #[.int .i64 x, .bool true]) ∧ _ from CL.out)
    clear CL
    go_enter Try.func33, Try.ntmps33
    go_wp2_with fail
    refine (CL2.out w (Below.refl _ _)).mono ?_
    rintro e w2 ⟨rfl, s2, k2⟩
    have S2 := Lib.hid s2; have K2 := Lib.hid k2
    clear s2 k2
    go_wp2_with fail
    go_ret2
    exact ⟨rfl, S2.out, K2.out⟩
/-- The blocks of a tree. -/
def TF (G : Nat → Prop) (b : Nat) (L : Lay) (k : Nat) : Prop := k = b ∨ k = L.hb ∨ k = L.nb ∨ (∃ a, L.sA = some a ∧ k = a.block) ∨ G k
theorem LI.In.keep {w w' : World} {G F : Nat → Prop} {b : Nat} {fs : List Value} {R : List (List Int)} {L : Lay} (h : LI.In w G b fs R L) (k : Keep F w w') (hF : ∀ x, TF G b L x → ¬ F x) : LI.In w' G b fs R L := by
  have hs := k.size
  exact ⟨Arr.same h.st (k.block b (Arr.lt h.st) (hF _ (Or.inl rfl))), h.src.same (fun a ha => k.block _ (h.src.lt a ha) (hF _ (Or.inr (Or.inr (Or.inr (Or.inl ⟨a, ha, rfl⟩)))))), Arr.same h.hand (k.block _ (Arr.lt h.hand) (hF _ (Or.inr (Or.inl rfl)))), h.nds.keep k (hF _ (Or.inr (Or.inr (Or.inl rfl)))) (fun x hx => hF x (Or.inr (Or.inr (Or.inr (Or.inr hx))))), fun x hx => ⟨by have := (h.gs x hx).1; omega, (h.gs x hx).2⟩, h.len, h.lens, h.fit, h.small, h.ok⟩
theorem LI.In.lt {w : World} {G : Nat → Prop} {b : Nat} {fs : List Value} {R : List (List Int)} {L : Lay} (h : LI.In w G b fs R L) (k : Nat) (hk : TF G b L k) : k < w.heap.size := by
  rcases hk with rfl | rfl | rfl | ⟨a, ha, rfl⟩ | hk
  · exact Arr.lt h.st
  · exact Arr.lt h.hand
  · exact Arr.lt h.nds.arr
  · exact h.src.lt a ha
  · exact (h.gs k hk).1
theorem src_ne {w : World} {A : Option Addr} {c g : Nat} {e t : TypeId} {xs vs : List Value} (h : RowA w e A c xs) (a : Arr w g t vs) (hne : e ≠ t) (ad : Addr) (ha : A = some ad) : ad.block ≠ g := by
  rcases h.parts with ⟨q, _⟩ | ⟨g', cur, q, q2, _⟩
  · rw [q] at ha; cases ha
  · rw [q] at ha; injection ha with ha; subst ha
    intro q3
    have q3 : g' = g := q3
    subst q3
    unfold Arr at a
    rw [a] at q2
    injection q2 with q2
    injection q2 with _ q2
    exact hne q2.symm
theorem hvals_set (R : List (List Int)) (i : Nat) (u : List Int) : hvals (R.set i u) = (hvals R).set i (.int .i64 (u.headD 0)) := by unfold hvals; rw [List.map_set]
/-- What source i has at hand turns. -/
theorem LI.In.hset {w : World} {G : Nat → Prop} {b : Nat} {fs : List Value} {R : List (List Int)} {L : Lay} (h : LI.In w G b fs R L) (i : Nat) (u : List Int) : LI.In (w.setCell ⟨L.hb, i, none⟩ (.int .i64 (u.headD 0))) G b fs (R.set i u) L := by
  have n1 : b ≠ L.hb := arr_ne h.st h.hand (by decide)
  have n2 : L.nb ≠ L.hb := arr_ne h.nds.arr h.hand (by decide)
  have kp : Keep (· = L.hb) w (w.setCell ⟨L.hb, i, none⟩ (.int .i64 (u.headD 0))) := ⟨rfl, rfl, rfl, by simp [World.setCell], fun k _ hn => heap_setCell_other w _ k _ hn⟩
  have hl : (R.set i u).length = R.length := List.length_set ..
  refine ⟨?_, h.src.other (fun a ha => src_ne h.src h.hand (by decide) a ha) _, ?_, h.nds.keep kp n2 (fun k hk => (h.gs k hk).2.2.1), fun k hk => ⟨by simpa [World.setCell] using (h.gs k hk).1, (h.gs k hk).2⟩, h.len, by rw [hl]; exact h.lens, by rw [hl]; exact h.fit, h.small, by rw [hl]; exact h.ok⟩
  · rw [hl]; exact Arr.far h.st n1 _
  · rw [hvals_set]; exact Arr.set h.hand i _
/-- One source less has something at hand. -/
theorem LI.In.lset {w : World} {G : Nat → Prop} {b : Nat} {fs : List Value} {R : List (List Int)} {L : Lay} (h : LI.In w G b fs R L) (v : Nat) : LI.In (w.setCell ⟨b, 3, none⟩ (.int .i64 (v : Int))) G b fs R { L with lv := v } := by
  have n1 : L.hb ≠ b := arr_ne h.hand h.st (by decide)
  have n2 : L.nb ≠ b := arr_ne h.nds.arr h.st (by decide)
  have kp : Keep (· = b) w (w.setCell ⟨b, 3, none⟩ (.int .i64 (v : Int))) := ⟨rfl, rfl, rfl, by simp [World.setCell], fun k _ hn => heap_setCell_other w _ k _ hn⟩
  refine ⟨?_, h.src.other (fun a ha => src_ne h.src h.st (by decide) a ha) _, Arr.far h.hand n1 _, h.nds.keep kp n2 (fun k hk => (h.gs k hk).2.1), fun k hk => ⟨by simpa [World.setCell] using (h.gs k hk).1, (h.gs k hk).2⟩, h.len, h.lens, h.fit, h.small, h.ok⟩
  exact Arr.set h.st 3 _
end Go.Proofs.Ytimfmflnaehmgaa
