/-
  Things that lie in blocks of their own: what a call leaves as it was.
-/
import Derived.Test.YtjjkddahfmkhoaaWOwn
namespace Go.Proofs.Ytjjkddahfmkhoaa
set_option linter.unusedVariables false
set_option linter.unusedSimpArgs false
open Go.RowKit

/-- All blocks but those of F are as they were. -/
structure Keep (F : Nat → Prop) (w w' : World) : Prop where
  os : w'.os = w.os
  tape : w'.tape = w.tape
  output : w'.output = w.output
  size : w.heap.size ≤ w'.heap.size
  block : ∀ k, k < w.heap.size → ¬ F k → w'.heap[k]? = w.heap[k]?
theorem Keep.refl (F : Nat → Prop) (w : World) : Keep F w w := ⟨rfl, rfl, rfl, Nat.le_refl _, fun _ _ _ => rfl⟩
theorem Keep.of_below {F : Nat → Prop} {w w' : World} (h : Below w.heap.size w w') : Keep F w w' := ⟨h.os, h.tape, h.output, h.size, fun k hk _ => h.block k hk⟩
/-- The blocks behind a call: those before it, and new ones. -/
def Sub (F' F : Nat → Prop) (w : World) : Prop := ∀ k, F' k → F k ∨ w.heap.size ≤ k
theorem Sub.refl (F : Nat → Prop) (w : World) : Sub F F w := fun _ h => Or.inl h
theorem Sub.trans {F F' F'' : Nat → Prop} {w w' : World} (h : Sub F' F w) (h' : Sub F'' F' w') (hs : w.heap.size ≤ w'.heap.size) : Sub F'' F w := fun k hk => by
  rcases h' k hk with e | e
  · exact h k e
  · exact Or.inr (by omega)
theorem Keep.trans {F F' : Nat → Prop} {w w' w'' : World} (h : Keep F w w') (s : Sub F' F w) (h' : Keep F' w' w'') : Keep F w w'' :=
  ⟨h'.os.trans h.os, h'.tape.trans h.tape, h'.output.trans h.output, Nat.le_trans h.size h'.size, fun k hk hn => by
    rw [h'.block k (by have := h.size; omega) (fun e => by rcases s k e with e | e; exact hn e; omega), h.block k hk hn]⟩
theorem Keep.below {F : Nat → Prop} {B : Nat} {w0 w w' : World} (h : Keep F w w') (hF : ∀ k, F k → B ≤ k) (hb : Below B w0 w) (hB : B ≤ w.heap.size) : Below B w0 w' :=
  hb.trans ⟨h.os, h.tape, h.output, h.size, fun k hk => h.block k (by omega) (fun e => by have := hF k e; omega)⟩
theorem Keep.own {F : Nat → Prop} {w w' : World} {base g cap : Nat} {xs : List Int} (h : Keep F w w') (ho : Own w base g cap xs) (hg : ¬ F g) : Own w' base g cap xs := by
  refine ⟨⟨ho.1.1, ?_⟩, ho.2⟩
  have hl := ho.lt
  rcases ho.1.2 with e | ⟨g', c', cur, e, h1, h2, h3⟩
  · exact Or.inl e
  · refine Or.inr ⟨g', c', cur, e, h1, ?_, h3⟩
    injection e with e
    injection e with e
    injection e with e
    subst e
    rw [h.block _ hl.2 hg]
    exact h2
theorem Keep.reads {F : Nat → Prop} {w w' : World} {B : Nat} {A : Option Addr} {xs : List Int} (h : Keep F w w') (hr : RdB w B A xs) (hB : B ≤ w.heap.size) (hF : ∀ k, F k → B ≤ k) : RdB w' B A xs := fun k hk => by
  obtain ⟨b, o, h1, h2, h3, h4⟩ := hr k hk
  refine ⟨b, o, h1, h2, ?_, h4⟩
  rw [World.cell?_of_block (w := w) (a := ⟨b, o + k, none⟩) (h.block b (by omega) (fun e => by have := hF b e; omega))]
  exact h3
end Go.Proofs.Ytjjkddahfmkhoaa
