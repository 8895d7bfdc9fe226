/-
  Heaps of pairs that a law made: what Push, Pop, Top, Len leave of everything else.
-/
import Derived.Test.YtkgjbmlgbfejlaaHpP
namespace Go.Proofs.Ytkgjbmlgbfejlaa
set_option linter.unusedVariables false
set_option linter.unusedSimpArgs false
open Go.RowKit

/-- Blocks of other kinds are as they were. -/
def HP.Apart (w w' : World) : Prop := w.heap.size ≤ w'.heap.size ∧ ∀ (b : Nat) (cur : Array Value) (T : TypeId), w.heap[b]? = some (.cells cur T (0, 0)) → T ≠ 70 → T ≠ 67 → w'.heap[b]? = w.heap[b]?
theorem HP.Apart.below {w w' : World} (h : Below w.heap.size w w') : HP.Apart w w' := ⟨h.size, fun b cur T q _ _ => h.block b (heap_lt q)⟩
/-- A heap in blocks that were not there at w0. -/
def HP.In (down : Bool) (w0 w : World) (bp bd : Nat) (C : List (Int × Int)) : Prop := ∃ G, HP.At down w bp bd C G ∧ (∀ b, b ∈ bp :: G → w0.heap.size ≤ b) ∧ Below w0.heap.size w0 w
theorem HP.In.older {down : Bool} {w0 w w' : World} {bp bd : Nat} {C : List (Int × Int)} (h : HP.In down w0 w bp bd C) (b : Below w.heap.size w w') : HP.In down w0 w' bp bd C := by
  obtain ⟨G, h1, h2, h3⟩ := h
  exact ⟨G, h1.below b, h2, bstep h3 b⟩
theorem HP.Less.kk {down : Bool} {w w' : World} {bd : Nat} {F : Nat → Prop} (h : HP.Less down w bd) (k : Keep F w w') (hF : ∀ b, F b → ∃ (cur : Array Value) (T : TypeId), w.heap[b]? = some (.cells cur T (0, 0)) ∧ T ≠ 4) : HP.Less down w' bd := Arr.keep h k (fun q => by
  obtain ⟨cur, T, q1, q2⟩ := hF bd q
  exact arr_ne h q1 q2.symm)
theorem HP.In.keep {down : Bool} {w0 w w' : World} {bp bd : Nat} {C : List (Int × Int)} {F : Nat → Prop} (h : HP.In down w0 w bp bd C) (k : Keep F w w') (hF : ∀ b, F b → w0.heap.size ≤ b ∧ ∃ (cur : Array Value) (T : TypeId), w.heap[b]? = some (.cells cur T (0, 0)) ∧ T ≠ 70 ∧ T ≠ 67 ∧ T ≠ 4) : HP.In down w0 w' bp bd C := by
  obtain ⟨G, ⟨A, n, c, q1, q2, q3⟩, h2, h3⟩ := h
  refine ⟨G, ⟨A, n, c, Arr.keep q1 k (fun q => ?_), q2.kk k (fun b hb => ?_), q3.same fun b hb => k.block b (q3.lt b hb) (fun q => ?_)⟩, h2, k.below (fun b hb => (hF b hb).1) h3 h3.size⟩
  · obtain ⟨_, cur, T, q4, q5, q6, _⟩ := hF bp q
    exact arr_ne q1 q4 q6.symm
  · obtain ⟨_, cur, T, q4, q5, q6, q7⟩ := hF b hb
    exact ⟨cur, T, q4, q7⟩
  · obtain ⟨_, cur, T, q4, q5, _⟩ := hF b q
    obtain ⟨cu, q8⟩ := q3.kind b hb
    rw [q4] at q8
    injection q8 with q8
    injection q8 with _ q8
    exact q5 q8
theorem HP.In.bel {down : Bool} {w0 w : World} {bp bd : Nat} {C : List (Int × Int)} (h : HP.In down w0 w bp bd C) : Below w0.heap.size w0 w := by
  obtain ⟨G, h1, h2, h3⟩ := h; exact h3
theorem HP.apart_of {down : Bool} {w w' : World} {bp bd : Nat} {C : List (Int × Int)} {G : List Nat} (h : HP.At down w bp bd C G) (k : Keep (· ∈ bp :: G) w w') : HP.Apart w w' := by
  obtain ⟨A, n, c, q1, q2, q3⟩ := h
  refine ⟨k.size, fun b cur T q t1 t2 => k.block b (heap_lt q) (fun hb => ?_)⟩
  rcases List.mem_cons.1 hb with e | hb
  · subst e; exact arr_ne q1 q t2.symm
  · obtain ⟨cu, q4⟩ := q3.kind b hb
    rw [q] at q4
    injection q4 with q4
    injection q4 with _ q4
    exact t1 q4
theorem HP.in_of {down : Bool} {w0 w w' : World} {bp bd : Nat} {C C' : List (Int × Int)} {G G' : List Nat} (h : HP.At down w bp bd C G) (h2 : ∀ b, b ∈ bp :: G → w0.heap.size ≤ b) (h3 : Below w0.heap.size w0 w) (k : Keep (· ∈ bp :: G) w w') (h' : HP.At down w' bp bd C' G') (f : Fresh G' G w) : HP.In down w0 w' bp bd C' := by
  refine ⟨G', h', fun b hb => ?_, k.below h2 h3 h3.size⟩
  rcases List.mem_cons.1 hb with e | hb
  · subst e; exact h2 b (by simp)
  · rcases f b hb with q | q
    · exact h2 b (by simp [q])
    · have := h3.size; omega
theorem HP.new_in (down : Bool) (bd : Nat) (w0 w : World) (hq : HP.Less down w bd) (b : Below w0.heap.size w0 w) : Calls Try.prog 15 #[HP.fv bd] w fun e w' => e = .returned (.pointer (some ⟨w.heap.size, 0, none⟩)) ∧ HP.In down w0 w' w.heap.size bd [] ∧ Below w.heap.size w w' :=
  (HP.new_any down bd w hq).mono fun e w' ⟨h1, h2, h3, h4⟩ => ⟨h1, ⟨[], h2, fun q hq => by
    have : q = w.heap.size := by simpa using hq
    have := b.size
    omega, bstep b h3⟩, h3⟩
theorem HP.push_in (down : Bool) (bp bd : Nat) (C : List (Int × Int)) (x : (Int × Int)) (w0 w : World) (h : HP.In down w0 w bp bd C) (hs : C.length < 1000) : Calls Try.prog 17 #[.pointer (some ⟨bp, 0, none⟩), .agg #[.int .i64 x.1, .int .i64 x.2]] w fun e w' => e = .returned (.tuple #[]) ∧ ∃ C', HP.In down w0 w' bp bd C' ∧ C'.Perm (C ++ [x]) ∧ HP.Apart w w' := by
  obtain ⟨G, h1, h2, h3⟩ := h
  exact (HP.push_any down bp bd C G x w h1 hs).mono fun e w' ⟨q1, C', G', q2, q3, q4, q5⟩ => ⟨q1, C', HP.in_of h1 h2 h3 q5 q2 q4, q3, HP.apart_of h1 q5⟩
theorem HP.pop_in (down : Bool) (bp bd : Nat) (C : List (Int × Int)) (w0 w : World) (h : HP.In down w0 w bp bd C) (hc : C ≠ []) (hs : C.length ≤ 1000) : Calls Try.prog 18 #[.pointer (some ⟨bp, 0, none⟩)] w fun e w' => ∃ x C', e = .returned (.tuple #[.agg #[.int .i64 x.1, .int .i64 x.2], .bool true]) ∧ HP.Least down C x ∧ HP.In down w0 w' bp bd C' ∧ C.Perm (x :: C') ∧ HP.Apart w w' := by
  obtain ⟨G, h1, h2, h3⟩ := h
  exact (HP.pop_any down bp bd C G w h1 hc hs).mono fun e w' ⟨x, C', G', q1, q2, q3, q4, q5, q6⟩ => ⟨x, C', q1, q2, HP.in_of h1 h2 h3 q6 q3 q5, q4, HP.apart_of h1 q6⟩
theorem HP.nop_in (down : Bool) (bp bd : Nat) (w0 w : World) (h : HP.In down w0 w bp bd []) : Calls Try.prog 18 #[.pointer (some ⟨bp, 0, none⟩)] w fun e w' => e = .returned (.tuple #[.agg #[.int .i64 0, .int .i64 0], .bool false]) ∧ Below w.heap.size w w' := by
  obtain ⟨G, h1, h2, h3⟩ := h
  exact HP.pop_none down bp bd G w h1
end Go.Proofs.Ytkgjbmlgbfejlaa
