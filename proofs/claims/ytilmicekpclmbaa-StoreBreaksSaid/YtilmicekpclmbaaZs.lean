/-
  A range over a function whose elements lie in memory: what an iterator tells of each one in the world of its round; the law for a loop outside of rounds, and within one.
  Package store: the iterator along a chain, for every loop body.
  Package store: Blocks: an iterator over an iterator, for every loop body.
-/
import Derived.RangeFuncNested
import Derived.RangeFuncBound
import Derived.RangeFuncCalls
import Derived.RangeFuncLeaves
import Derived.Test.YtilmicekpclmbaaProg
import Derived.Shelf.Abstract
import Derived.Shelf.RegionOpen
import Derived.WalkKit
import Derived.OwnWalkIn
import Derived.TacticsInMore
import Derived.LoopNIn
import Derived.LoopIn
import Derived.Test.YtilmicekpclmbaaZr
namespace Go.Proofs.Ytilmicekpclmbaa
set_option linter.unusedVariables false
set_option linter.unusedSimpArgs false
open Go.RowKit

/-- A call of yield, at whatever depth. -/
def Yld (P : Program) (l : Nat) (args : Array Value) (W : World) (R : Ending → World → Prop) : Prop := ∀ m, YieldAt Fence.wide m P l args W R
theorem Yld.mono {P : Program} {l : Nat} {args : Array Value} {W : World} {R R' : Ending → World → Prop} (h : Yld P l args W R) (k : ∀ e w, R e w → R' e w) : Yld P l args W R' := fun m => (h m).mono k
/-- One block may be turned: one that lies at or beyond B and is no cells, or cells of a type of the list. -/
def Turn (T : List TypeId) (B : Nat) (W : World) (row : Option Nat) : Prop := ∀ r, row = some r → B ≤ r ∧ ∃ o, W.heap[r]? = some o ∧ (o.isCells = false ∨ ∃ cur t fr, o = .cells cur t fr ∧ t ∈ T)
def OwnT {β : Type} (T : List TypeId) (B : Nat) (I : β → World → Prop) : Prop := ∀ s W W' row, I s W → W.grownBy W' row → Turn T B W row → I s W'
theorem OwnT.from {β : Type} {T : List TypeId} {B : Nat} {I : β → World → Prop} (h : OwnT T B I) : OwnFrom B I := fun s W W' row hs hg hr => h s W W' row hs hg (fun r e => by obtain ⟨h1, o, h2, h3⟩ := hr r e; exact ⟨h1, o, h2, Or.inl h3⟩)
theorem OwnT.and {β : Type} {T : List TypeId} {B : Nat} {I I' : β → World → Prop} (h : OwnT T B I) (h' : OwnT T B I') : OwnT T B (fun s W => I s W ∧ I' s W) := fun s W W' row hs hg hr => ⟨h s W W' row hs.1 hg hr, h' s W W' row hs.2 hg hr⟩
theorem OwnT.ex {β γ : Type} {T : List TypeId} {B : Nat} {I : γ → β → World → Prop} (h : ∀ c, OwnT T B (I c)) : OwnT T B (fun s W => ∃ c, I c s W) := fun s X Y row ⟨c, hc⟩ hg hr => ⟨c, h c s X Y row hc hg hr⟩
theorem OwnT.pure {β : Type} (T : List TypeId) (B : Nat) (p : β → Prop) : OwnT T B (fun s (_ : World) => p s) := fun _ _ _ _ hs _ _ => hs
theorem OwnT.up {β : Type} {T T' : List TypeId} {B B' : Nat} {I : β → World → Prop} (h : OwnT T B I) (hB : B ≤ B') (hT : ∀ t, t ∈ T' → t ∈ T) : OwnT T' B' I := fun s W W' row hs hg hr => h s W W' row hs hg (fun r e => by
  obtain ⟨h1, o, h2, h3⟩ := hr r e
  refine ⟨by omega, o, h2, ?_⟩
  rcases h3 with h3 | ⟨cur, t, fr, h3, h4⟩
  · exact Or.inl h3
  · exact Or.inr ⟨cur, t, fr, h3, hT t h4⟩)
/-- What lies in blocks below B stays. -/
theorem OwnT.old {β : Type} {T : List TypeId} {B : Nat} {I : β → World → Prop} (h : ∀ s W W', I s W → (∀ k, k < B → k < W.heap.size → W'.heap[k]? = W.heap[k]?) → W.heap.size ≤ W'.heap.size → I s W') : OwnT T B I := fun s W W' row hs hg hr =>
  h s W W' hs (fun k h1 h2 => hg.block k h2 (fun e => by have := (hr k e.symm).1; omega)) hg.size
/-- Cells of another type, and what lay below, are never turned. -/
theorem Turn.other {T : List TypeId} {B : Nat} {W W' : World} {row : Option Nat} (hg : W.grownBy W' row) (hr : Turn T B W row) {k : Nat} {cur : Array Value} {t : TypeId} {fr : Nat × Nat} (hk : W.heap[k]? = some (.cells cur t fr)) (ht : k < B ∨ t ∉ T) : W'.heap[k]? = W.heap[k]? :=
  hg.block k (Array.getElem?_eq_some_iff.1 hk).1 (fun e => by
    obtain ⟨h1, o, h2, h3⟩ := hr k e.symm
    rw [hk] at h2
    injection h2 with h2
    subst h2
    rcases h3 with h3 | ⟨cur', t', fr', h3, h4⟩
    · cases h3
    · injection h3 with _ h3
      subst h3
      rcases ht with ht | ht
      · omega
      · exact ht h4)
theorem ownT_below {β : Type} {T : List TypeId} {n₀ B : Nat} {w₀ : World} (h : n₀ ≤ B) (h2 : n₀ ≤ w₀.heap.size) : OwnT T B (fun (_ : β) W => Below n₀ w₀ W) := fun _ X Y row hs hg hr =>
  hs.trans ⟨hg.os, hg.tape, hg.output, hg.size, fun k hk => hg.block k (by have := hs.size; omega) (fun e => by have := (hr k e.symm).1; omega)⟩
/-- What an iterator promises: R tells of an element in the world in which it comes; it turns cells of the types T alone. -/
def SeqR {α : Type} (P : Program) (T : List TypeId) (g : Nat) (lb : Array Value) (encs : α → Array Value) (R : List α → α → World → Prop) (Kp : World → World → Prop) (S Sp : List α → Prop) (w : World) : Prop :=
  ∀ (l : Nat) (J Jx : List α → World → Prop) (W : World), Below w.heap.size w W → OwnT T W.heap.size J → OwnT T W.heap.size Jx →
    (∀ pre x W1, J pre W1 → R pre x W1 → Yld P l (encs x) W1 fun e W' => KeepsFrom W.heap.size W1 W' ∧ ((e = .returned (.bool true) ∧ J (pre ++ [x]) W' ∧ Kp W1 W') ∨ (e = .returned (.bool false) ∧ Jx (pre ++ [x]) W'))) →
    J [] W →
    Calls P g (#[.func (.yield l) #[] #[]] ++ lb) W fun e W' => (∃ v, e = .returned v) ∧ ((∃ xs, S xs ∧ J xs W') ∨ (∃ pre, Sp pre ∧ Jx pre W'))

/-- What a round leaves: what lay below n₀, and all cells of the types T. -/
def KpT (T : List TypeId) (n₀ : Nat) (V V' : World) : Prop := Below n₀ V V' ∧ V.heap.size ≤ V'.heap.size ∧ ∀ (k : Nat) (cur : Array Value) (t : TypeId) (fr : Nat × Nat), V.heap[k]? = some (Obj.cells cur t fr) → t ∈ T → V'.heap[k]? = V.heap[k]?
theorem KpT.refl (T : List TypeId) (n₀ : Nat) (V : World) : KpT T n₀ V V := ⟨Below.refl _ _, Nat.le_refl _, fun _ _ _ _ _ _ => rfl⟩
theorem KpT.trans {T : List TypeId} {n₀ : Nat} {A B C : World} (h : KpT T n₀ A B) (k : KpT T n₀ B C) : KpT T n₀ A C :=
  ⟨h.1.trans k.1, Nat.le_trans h.2.1 k.2.1, fun q cur t fr h1 h2 => by
    have e := h.2.2 q cur t fr h1 h2
    rw [k.2.2 q cur t fr (e.trans h1) h2, e]⟩
theorem KpT.of_below {T : List TypeId} {n₀ : Nat} {V V' : World} (hb : Below V.heap.size V V') (h : n₀ ≤ V.heap.size) : KpT T n₀ V V' := ⟨hb.mono h, hb.size, fun q cur t fr h1 _ => hb.block q (Array.getElem?_eq_some_iff.1 h1).1⟩
theorem KpT.less {T T' : List TypeId} {n₀ : Nat} {V V' : World} (h : KpT T n₀ V V') (hT : ∀ t, t ∈ T' → t ∈ T) : KpT T' n₀ V V' := ⟨h.1, h.2.1, fun q cur t fr h1 h2 => h.2.2 q cur t fr h1 (hT t h2)⟩
theorem KpT.put {T : List TypeId} {n₀ : Nat} {w : World} (hn : n₀ ≤ w.heap.size) (W : World) (l : Nat) (o o' : Obj) (hl : w.heap.size ≤ l) (h : W.heap[l]? = some o) (ho : o.isCells = false) (_ : o.isWalk = false) : KpT T n₀ W (W.putObj l o') :=
  ⟨belowK_b hn W l o o' hl h ho (by assumption), by simp, fun q cur t fr h1 _ => World.putObj_heap_other (fun e => by subst e; rw [h] at h1; injection h1 with h1; subst h1; cases ho)⟩
/-- A loop's record. -/
def recOf (fn : FuncId) (tmps : Array Value) (ps : Array Tmp) (assign body : Code) (D : Nat) (st : LoopState) (pe : Option Code) : Loop := { state := st, pending := pe, fn, tmps, params := ps, assign, body, defers := D }
/-- How a round's body may be left: its end, and each jump. -/
def leftBy (B l : Nat) (rc : LoopState → Option Code → Loop) (W2 : World) (R' : Ending → World → Prop) : Exit → Act → World → Prop
  | .normal, _, W3 => KeepsFrom B W2 W3 ∧ R' (.returned (.bool true)) (W3.putObj l (.loop (rc .ready none)))
  | .ret, _, W3 => KeepsFrom B W2 W3 ∧ R' (.returned (.bool false)) (W3.putObj l (.loop (rc .done (some .ret))))
  | .exit id, _, W3 => KeepsFrom B W2 W3 ∧ R' (.returned (.bool false)) (W3.putObj l (.loop (rc .done (some (.exit id)))))
  | .goto t, _, W3 => KeepsFrom B W2 W3 ∧ R' (.returned (.bool false)) (W3.putObj l (.loop (rc .done (some (.goto t)))))
  | .panic _, _, _ => False
  | .outgrown, _, _ => False
theorem round_deep {m m' : Nat} {P : Program} {l : Nat} {f : FuncId} {tmps : Array Value} {assign body : Code} {w : World} {R : Ending → World → Prop}
    (h : RoundIn Fence.wide m P l f tmps assign body w R) : RoundIn Fence.wide m' P l f tmps assign body w R := ⟨trivial, fun c cs _ => h.2 c cs (fun d hd => by cases hd)⟩

/-- One round. -/
theorem yield_R {P : Program} {l B m : Nat} {fn : FuncId} {tmps : Array Value} {ps : Array Tmp} {assign body : Code} {D : Nat} {args : Array Value} {W : World} {R' : Ending → World → Prop} {K : Act → World → Prop}
    (hB : B ≤ l) (hl : W.heap[l]? = some (.loop (recOf fn tmps ps assign body D .ready none))) (hs : args.size = ps.size)
    (ha : assign.wpIn (Fence.wide.inRound l) m P (Exit.then (fun a' Wa => KeepsFrom B W Wa ∧ K a' Wa) (fun _ _ _ => False)) { tmps := (ps.zip args).foldl (fun t (p, v) => t.setIfInBounds p v) tmps, defers := [] } W)
    (hb : ∀ a' Wa, KeepsFrom B W Wa → K a' Wa → Wa.heap[l]? = some (.loop (recOf fn tmps ps assign body D .ready none)) →
      body.wpIn (Fence.wide.inRound l) m P (leftBy B l (recOf fn tmps ps assign body D) (Wa.putObj l (.loop (recOf fn tmps ps assign body D .busy none))) R') a' (Wa.putObj l (.loop (recOf fn tmps ps assign body D .busy none)))) :
    Yld P l args W R' := fun m' => by
  refine ⟨fn, _, assign, body, run_yield (r := recOf fn tmps ps assign body D .ready none) hl hs, round_deep (m := m) (roundIn_of_wpIn trivial (wpIn_mono ha ?_))⟩
  intro e a' Wa h
  cases e
  case normal =>
    obtain ⟨hk, hK⟩ := h
    have hla := hk.same _ _ hB hl rfl
    have hlt : l < Wa.heap.size := (Array.getElem?_eq_some_iff.1 hla).1
    refine ⟨_, run_beginRound hla rfl, wpIn_mono (hb a' Wa hk hK hla) ?_⟩
    have busy : ∀ W3, KeepsFrom B (Wa.putObj l (.loop (recOf fn tmps ps assign body D .busy none))) W3 → W3.heap[l]? = some (.loop (recOf fn tmps ps assign body D .busy none)) := fun W3 h3 => h3.same _ _ hB (World.putObj_heap_same hlt) rfl
    intro e3 a3 W3 h3
    cases e3 with
    | normal => exact ⟨_, _, run_endRound none (busy W3 h3.1), h3.2⟩
    | ret => exact ⟨_, _, run_endRound (some .ret) (busy W3 h3.1), h3.2⟩
    | exit id => exact ⟨_, _, run_endRound (some (.exit id)) (busy W3 h3.1), h3.2⟩
    | goto t => exact ⟨_, _, run_endRound (some (.goto t)) (busy W3 h3.1), h3.2⟩
    | panic ch => exact h3.elim
    | outgrown => exact h3.elim
  all_goals exact h

section
variable {α : Type} {P : Program} {n m : Nat} {g : Operand} {ps : Array Tmp} {assign body : Code} {Q : Exit → Act → World → Prop} {a : Act} {w : World}
/-- The loop's two blocks of book-keeping. -/
def BookR (l D : Nat) (r : Loop) (W : World) : Prop := W.heap[l]? = some (.loop r) ∧ W.heap[D]? = some (.deferred (some []))
theorem owns_one {β : Type} {T : List TypeId} {I : β → World → Prop} {B B' l : Nat} {o : Obj} (hI : OwnT T B I) (hB : B ≤ B') (hl : l < B') : OwnT T B' (fun s W => I s W ∧ W.heap[l]? = some o) := fun s X Y row hs hg hr =>
  ⟨(hI.up hB (fun _ h => h)) s X Y row hs.1 hg hr, (hg.block l (Array.getElem?_eq_some_iff.1 hs.2).1 (fun e => by have := (hr l e.symm).1; omega)).trans hs.2⟩
theorem owns_book {β : Type} {T : List TypeId} {I : β → World → Prop} {B B' l D : Nat} {r : Loop} (hI : OwnT T B I) (hB : B ≤ B') (hl : l < B') (hD : D < B') : OwnT T B' (fun s W => I s W ∧ BookR l D r W) := fun s X Y row hs hg hr =>
  ⟨(hI.up hB (fun _ h => h)) s X Y row hs.1 hg hr, (hg.block l (Array.getElem?_eq_some_iff.1 hs.2.1).1 (fun e => by have := (hr l e.symm).1; omega)).trans hs.2.1, (hg.block D (Array.getElem?_eq_some_iff.1 hs.2.2).1 (fun e => by have := (hr D e.symm).1; omega)).trans hs.2.2⟩

/-- A loop outside of rounds. -/
theorem range_R {gf : Nat} {lb : Array Value} (hg : a.eval g = .func (.func gf) #[] lb) (eg : ∀ args w, (callFunc gf args).run P w = .ok (.enter gf args) w)
    {encs : α → Array Value} {R : List α → α → World → Prop} {Kp : World → World → Prop} {S Sp : List α → Prop} {w0 : World} {T : List TypeId} (hseq : SeqR P T gf lb encs R Kp S Sp w0)
    (hKt : ∀ {A B C : World}, Kp A B → Kp B C → Kp A C) (hKb : ∀ (W : World) (l : Nat) (o o' : Obj), w.heap.size ≤ l → W.heap[l]? = some o → o.isCells = false → o.isWalk = false → Kp W (W.putObj l o')) (hb0 : Below w0.heap.size w0 w) (hps : ∀ x, (encs x).size = ps.size)
    (I : List α → World → Prop) (Ix : Code → List α → World → Prop) (hIt : OwnT T w.heap.size I) (hIxt : ∀ c, OwnT T w.heap.size (Ix c)) (h0 : I [] w) (Ax : List α → α → Act → World → Prop) (hAx : ∀ pre x a', OwnFrom w.heap.size (fun (_ : Unit) W => Ax pre x a' W))
    (hassign : ∀ (l : Nat) (pre : List α) (x : α) (W : World) (K : Act → World → Prop), I pre W → R pre x W → (∀ a' W', KeepsFrom w.heap.size W W' → Kp W W' → I pre W' → Ax pre x a' W' → K a' W') →
      assign.wpIn (Fence.wide.inRound l) m P (Exit.then K (fun _ _ _ => False)) { tmps := (ps.zip (encs x)).foldl (fun t (p, v) => t.setIfInBounds p v) a.tmps, defers := [] } W)
    (hbody : ∀ (l : Nat) (pre : List α) (x : α) (a' : Act) (W : World), w.heap.size ≤ l → (∃ r, W.heap[l]? = some (.loop r)) → I pre W → Ax pre x a' W → body.wpIn (Fence.wide.inRound l) m P (ownPostG w.heap.size Kp I Ix (pre ++ [x]) W) a' W)
    (hdone : ∀ (D : Nat) (xs : List α) (W : World), w.heap.size ≤ D → S xs → I xs W → W.heap[D]? = some (.deferred (some [])) → Q .normal { a with defers := { target := .collected D, args := #[] } :: a.defers } W)
    (hstop : ∀ (D : Nat) (c : Code) (pre : List α) (W : World), w.heap.size ≤ D → Sp pre → Ix c pre W → W.heap[D]? = some (.deferred (some [])) → c.wpIn Fence.wide n P Q { a with defers := { target := .collected D, args := #[] } :: a.defers } W) :
    (Code.rangeFunc g ps assign body).wpIn Fence.wide n P Q a w := by
  have hI := hIt.from
  have hIx := fun c => (hIxt c).from
  refine wpIn_rangeFunc (fun fn _ => ?_)
  obtain ⟨D, hD⟩ : ∃ D, D = w.heap.size := ⟨_, rfl⟩
  obtain ⟨l, hl⟩ : ∃ l, l = w.heap.size + 1 := ⟨_, rfl⟩
  obtain ⟨rc, hrc⟩ : ∃ rc, rc = recOf fn a.tmps ps assign body D := ⟨_, rfl⟩
  obtain ⟨V, hV⟩ : ∃ V, V = w.alloc (.deferred (some [])) := ⟨_, rfl⟩
  obtain ⟨W1, hW1⟩ : ∃ W1, W1 = V.alloc (.loop (rc .ready none)) := ⟨_, rfl⟩
  have sV : V.heap.size = l := by rw [hV, hl]; simp
  have sW : W1.heap.size = l + 1 := by rw [hW1]; simp [sV]
  have bV : Below w.heap.size w W1 := by rw [hW1, hV]; exact ((Below.refl _ w).alloc (Nat.le_refl _) _).alloc (by simp) _
  have l1 : W1.heap[l]? = some (.loop (rc .ready none)) := by rw [hW1, ← sV]; exact World.alloc_heap_new V _
  have d1 : W1.heap[D]? = some (.deferred (some [])) := by
    rw [hW1, Below.heap_alloc _ _ _ (by rw [sV]; omega), hV, hD]; exact World.alloc_heap_new w _
  have i1 : I [] W1 := by rw [hW1, hV]; exact hI.alloc _ (hI.alloc _ h0)
  have ent : (Instr.enterLoop fn a.tmps ps assign body none).run P w = .ok (l, [{ target := .collected D, args := #[] }]) W1 := by
    rw [hW1, hV, hrc, hl, hD]; exact run_enterLoop_outer _ _ _ _ _
  refine ⟨l, [{ target := .collected D, args := #[] }], W1, { target := .fn (.func gf) lb, args := #[.func (.yield l) #[] #[]] }, W1, gf, #[.func (.yield l) #[] #[]] ++ lb, W1, ent, ?_, ?_, ?_, (fun h => by cases h), ?_⟩
  · simp only [resolve, hg]; simp [go_sem]
  · intro _ _; trivial
  · simp [invoke, go_sem, eg]
  · -- the rounds: what the body is told, and what it leaves
    have rnd : ∀ pre x W, (I pre W ∧ BookR l D (rc .ready none) W) → R pre x W → Yld P l (encs x) W fun e W' => KeepsFrom W1.heap.size W W' ∧
        ((e = .returned (.bool true) ∧ (I (pre ++ [x]) W' ∧ BookR l D (rc .ready none) W') ∧ Kp W W') ∨ (e = .returned (.bool false) ∧ ∃ c, Ix c (pre ++ [x]) W' ∧ BookR l D (rc .done (some c)) W')) := by
      rintro pre x W ⟨hi, hbl, hbd⟩ hr
      rw [hrc] at hbl
      refine yield_R (m := m) (B := w.heap.size) (K := fun a' Wa => Kp W Wa ∧ I pre Wa ∧ Ax pre x a' Wa) (by omega) hbl (hps x) (hassign l pre x W _ hi hr (fun a' W' h1 h2 h3 h4 => ⟨h1, h2, h3, h4⟩)) ?_
      rintro a' Wa hk ⟨kp, hia, hax⟩ hla
      have hda := hk.same _ _ (by omega) hbd rfl
      have hlt : l < Wa.heap.size := (Array.getElem?_eq_some_iff.1 hla).1
      obtain ⟨W2, hW2⟩ : ∃ W2, W2 = Wa.putObj l (.loop (recOf fn a.tmps ps assign body D .busy none)) := ⟨_, rfl⟩
      have l2 : W2.heap[l]? = some (.loop (recOf fn a.tmps ps assign body D .busy none)) := by rw [hW2]; exact World.putObj_heap_same hlt
      have d2 : W2.heap[D]? = some (.deferred (some [])) := by rw [hW2]; exact (World.putObj_heap_other (by omega)).trans hda
      have k2 : Kp Wa W2 := by rw [hW2]; exact hKb _ _ _ _ (by omega) hla rfl rfl
      have i2 : I pre W2 := by rw [hW2]; exact hI.putObj _ hia (by omega) hla rfl
      have a2 : Ax pre x a' W2 := by rw [hW2]; exact (hAx pre x a').putObj (s := ()) _ hax (by omega) hla rfl
      rw [← hW2]
      refine wpIn_mono (hbody l pre x a' W2 (by omega) ⟨_, l2⟩ i2 a2) ?_
      have fin : ∀ (st : LoopState) (pe : Option Code) W3, KeepsFrom w.heap.size W2 W3 → W3.heap[l]? = some (.loop (recOf fn a.tmps ps assign body D .busy none)) ∧ BookR l D (rc st pe) (W3.putObj l (.loop (recOf fn a.tmps ps assign body D st pe))) := fun st pe W3 h3 => by
        have l3 := h3.same _ _ (by omega) l2 rfl
        exact ⟨l3, by rw [hrc]; exact World.putObj_heap_same (Array.getElem?_eq_some_iff.1 l3).1, (World.putObj_heap_other (by omega)).trans (h3.same _ _ (by omega) d2 rfl)⟩
      have kf : ∀ (o : Obj) W3, KeepsFrom w.heap.size W2 W3 → KeepsFrom W1.heap.size W (W3.putObj l o) := fun o W3 h3 =>
        ⟨by have := hk.size; have := h3.size; rw [hW2] at this; simp at this ⊢; omega, fun k ob h1 h2 h4 => by
          have e1 := hk.same k ob (by omega) h2 h4
          have e2 : W2.heap[k]? = some ob := by rw [hW2]; exact (World.putObj_heap_other (by omega)).trans e1
          exact (World.putObj_heap_other (by omega)).trans (h3.same k ob (by omega) e2 h4)⟩
      intro e a3 W3 h3
      cases e with
      | normal =>
        obtain ⟨h3, kp3, i3⟩ := h3
        obtain ⟨l3, bk⟩ := fin .ready none W3 h3
        exact ⟨h3, kf _ _ h3, Or.inl ⟨rfl, ⟨hI.putObj _ i3 (by omega) l3 rfl, bk⟩, hKt kp (hKt k2 (hKt kp3 (hKb _ _ _ _ (by omega) l3 rfl rfl)))⟩⟩
      | ret =>
        obtain ⟨h3, i3⟩ := h3
        obtain ⟨l3, bk⟩ := fin .done (some .ret) W3 h3
        exact ⟨h3, kf _ _ h3, Or.inr ⟨rfl, .ret, (hIx _).putObj _ i3 (by omega) l3 rfl, bk⟩⟩
      | exit id =>
        obtain ⟨h3, i3⟩ := h3
        obtain ⟨l3, bk⟩ := fin .done (some (.exit id)) W3 h3
        exact ⟨h3, kf _ _ h3, Or.inr ⟨rfl, .exit id, (hIx _).putObj _ i3 (by omega) l3 rfl, bk⟩⟩
      | goto t =>
        obtain ⟨h3, i3⟩ := h3
        obtain ⟨l3, bk⟩ := fin .done (some (.goto t)) W3 h3
        exact ⟨h3, kf _ _ h3, Or.inr ⟨rfl, .goto t, (hIx _).putObj _ i3 (by omega) l3 rfl, bk⟩⟩
      | panic ch => exact h3.elim
      | outgrown => exact h3.elim
    refine (callsIn_wide.2 (hseq l (fun pre W => I pre W ∧ BookR l D (rc .ready none) W) (fun pre W => ∃ c, Ix c pre W ∧ BookR l D (rc .done (some c)) W) W1 (hb0.trans (bV.mono hb0.size)) (owns_book hIt (by omega) (by omega) (by omega)) (OwnT.ex fun c => owns_book (hIxt c) (by omega) (by omega) (by omega)) rnd ⟨i1, l1, d1⟩)).mono ?_
    rintro e W2 ⟨⟨v, rfl⟩, ⟨xs, hS, hi, hbl, hbd⟩ | ⟨pre, hSp, c, hi, hbl, hbd⟩⟩
    · rw [hrc] at hbl
      exact ⟨none, _, run_endLoop hbl (by simp [recOf]), hdone D xs _ (by omega) hS (hI.putObj _ hi (by omega) hbl rfl) ((World.putObj_heap_other (by omega)).trans hbd)⟩
    · rw [hrc] at hbl
      exact ⟨some c, _, run_endLoop hbl (by simp [recOf]), hstop D c pre _ (by omega) hSp ((hIx c).putObj _ hi (by omega) hbl rfl) ((World.putObj_heap_other (by omega)).trans hbd)⟩
/-- A loop within a round. -/
theorem range_N {l₀ : Nat} {r₀ : Loop} (hl₀ : w.heap[l₀]? = some (.loop r₀)) {gf : Nat} {lb : Array Value} (hg : a.eval g = .func (.func gf) #[] lb) (eg : ∀ args w, (callFunc gf args).run P w = .ok (.enter gf args) w)
    {encs : α → Array Value} {R : List α → α → World → Prop} {Kp : World → World → Prop} {S Sp : List α → Prop} {w0 : World} {T : List TypeId} (hseq : SeqR P T gf lb encs R Kp S Sp w0)
    (hKt : ∀ {A B C : World}, Kp A B → Kp B C → Kp A C) (hKb : ∀ (W : World) (l : Nat) (o o' : Obj), w.heap.size ≤ l → W.heap[l]? = some o → o.isCells = false → o.isWalk = false → Kp W (W.putObj l o')) (hb0 : Below w0.heap.size w0 w) (hps : ∀ x, (encs x).size = ps.size)
    (I : List α → World → Prop) (Ix : Code → List α → World → Prop) (hIt : OwnT T w.heap.size I) (hIxt : ∀ c, OwnT T w.heap.size (Ix c)) (h0 : I [] w) (Ax : List α → α → Act → World → Prop) (hAx : ∀ pre x a', OwnFrom w.heap.size (fun (_ : Unit) W => Ax pre x a' W))
    (hassign : ∀ (l : Nat) (pre : List α) (x : α) (W : World) (K : Act → World → Prop), I pre W → R pre x W → (∀ a' W', KeepsFrom w.heap.size W W' → Kp W W' → I pre W' → Ax pre x a' W' → K a' W') →
      assign.wpIn (Fence.wide.inRound l) m P (Exit.then K (fun _ _ _ => False)) { tmps := (ps.zip (encs x)).foldl (fun t (p, v) => t.setIfInBounds p v) a.tmps, defers := [] } W)
    (hbody : ∀ (l : Nat) (pre : List α) (x : α) (a' : Act) (W : World), w.heap.size ≤ l → (∃ r, W.heap[l]? = some (.loop r)) → I pre W → Ax pre x a' W → body.wpIn (Fence.wide.inRound l) m P (ownPostG w.heap.size Kp I Ix (pre ++ [x]) W) a' W)
    (hdone : ∀ (xs : List α) (W : World), S xs → I xs W → Q .normal a W)
    (hstop : ∀ (c : Code) (pre : List α) (W : World), Sp pre → Ix c pre W → c.wpIn (Fence.wide.inRound l₀) n P Q a W) :
    (Code.rangeFunc g ps assign body).wpIn (Fence.wide.inRound l₀) n P Q a w := by
  have hI := hIt.from
  have hIx := fun c => (hIxt c).from
  refine wpIn_rangeFunc (fun fn _ => ?_)
  obtain ⟨l, hl⟩ : ∃ l, l = w.heap.size := ⟨_, rfl⟩
  obtain ⟨rc, hrc⟩ : ∃ rc, rc = recOf fn a.tmps ps assign body r₀.defers := ⟨_, rfl⟩
  obtain ⟨W1, hW1⟩ : ∃ W1, W1 = w.alloc (.loop (rc .ready none)) := ⟨_, rfl⟩
  have sW : W1.heap.size = l + 1 := by rw [hW1, hl]; simp
  have bV : Below w.heap.size w W1 := by rw [hW1]; exact (Below.refl _ w).alloc (Nat.le_refl _) _
  have l1 : W1.heap[l]? = some (.loop (rc .ready none)) := by rw [hW1, hl]; exact World.alloc_heap_new w _
  have i1 : I [] W1 := by rw [hW1]; exact hI.alloc _ h0
  have ent : (Instr.enterLoop fn a.tmps ps assign body (some l₀)).run P w = .ok (l, []) W1 := by
    rw [hW1, hrc, hl]; exact run_enterLoop_inner hl₀ _ _ _ _ _
  refine ⟨l, [], W1, { target := .fn (.func gf) lb, args := #[.func (.yield l) #[] #[]] }, W1, gf, #[.func (.yield l) #[] #[]] ++ lb, W1, ent, ?_, ?_, ?_, (fun h => by cases h), ?_⟩
  · simp only [resolve, hg]; simp [go_sem]
  · intro _ _; trivial
  · simp [invoke, go_sem, eg]
  · have rnd : ∀ pre x W, (I pre W ∧ W.heap[l]? = some (.loop (rc .ready none))) → R pre x W → Yld P l (encs x) W fun e W' => KeepsFrom W1.heap.size W W' ∧
        ((e = .returned (.bool true) ∧ (I (pre ++ [x]) W' ∧ W'.heap[l]? = some (.loop (rc .ready none))) ∧ Kp W W') ∨ (e = .returned (.bool false) ∧ ∃ c, Ix c (pre ++ [x]) W' ∧ W'.heap[l]? = some (.loop (rc .done (some c))))) := by
      rintro pre x W ⟨hi, hbl⟩ hr
      rw [hrc] at hbl
      refine yield_R (m := m) (B := w.heap.size) (K := fun a' Wa => Kp W Wa ∧ I pre Wa ∧ Ax pre x a' Wa) (by omega) hbl (hps x) (hassign l pre x W _ hi hr (fun a' W' h1 h2 h3 h4 => ⟨h1, h2, h3, h4⟩)) ?_
      rintro a' Wa hk ⟨kp, hia, hax⟩ hla
      have hlt : l < Wa.heap.size := (Array.getElem?_eq_some_iff.1 hla).1
      obtain ⟨W2, hW2⟩ : ∃ W2, W2 = Wa.putObj l (.loop (recOf fn a.tmps ps assign body r₀.defers .busy none)) := ⟨_, rfl⟩
      have l2 : W2.heap[l]? = some (.loop (recOf fn a.tmps ps assign body r₀.defers .busy none)) := by rw [hW2]; exact World.putObj_heap_same hlt
      have k2 : Kp Wa W2 := by rw [hW2]; exact hKb _ _ _ _ (by omega) hla rfl rfl
      have i2 : I pre W2 := by rw [hW2]; exact hI.putObj _ hia (by omega) hla rfl
      have a2 : Ax pre x a' W2 := by rw [hW2]; exact (hAx pre x a').putObj (s := ()) _ hax (by omega) hla rfl
      rw [← hW2]
      refine wpIn_mono (hbody l pre x a' W2 (by omega) ⟨_, l2⟩ i2 a2) ?_
      have fin : ∀ (st : LoopState) (pe : Option Code) W3, KeepsFrom w.heap.size W2 W3 → W3.heap[l]? = some (.loop (recOf fn a.tmps ps assign body r₀.defers .busy none)) ∧ (W3.putObj l (.loop (recOf fn a.tmps ps assign body r₀.defers st pe))).heap[l]? = some (.loop (rc st pe)) := fun st pe W3 h3 => by
        have l3 := h3.same _ _ (by omega) l2 rfl
        exact ⟨l3, by rw [hrc]; exact World.putObj_heap_same (Array.getElem?_eq_some_iff.1 l3).1⟩
      have kf : ∀ (o : Obj) W3, KeepsFrom w.heap.size W2 W3 → KeepsFrom W1.heap.size W (W3.putObj l o) := fun o W3 h3 =>
        ⟨by have := hk.size; have := h3.size; rw [hW2] at this; simp at this ⊢; omega, fun k ob h1 h2 h4 => by
          have e1 := hk.same k ob (by omega) h2 h4
          have e2 : W2.heap[k]? = some ob := by rw [hW2]; exact (World.putObj_heap_other (by omega)).trans e1
          exact (World.putObj_heap_other (by omega)).trans (h3.same k ob (by omega) e2 h4)⟩
      intro e a3 W3 h3
      cases e with
      | normal =>
        obtain ⟨h3, kp3, i3⟩ := h3
        obtain ⟨l3, bk⟩ := fin .ready none W3 h3
        exact ⟨h3, kf _ _ h3, Or.inl ⟨rfl, ⟨hI.putObj _ i3 (by omega) l3 rfl, bk⟩, hKt kp (hKt k2 (hKt kp3 (hKb _ _ _ _ (by omega) l3 rfl rfl)))⟩⟩
      | ret =>
        obtain ⟨h3, i3⟩ := h3
        obtain ⟨l3, bk⟩ := fin .done (some .ret) W3 h3
        exact ⟨h3, kf _ _ h3, Or.inr ⟨rfl, .ret, (hIx _).putObj _ i3 (by omega) l3 rfl, bk⟩⟩
      | exit id =>
        obtain ⟨h3, i3⟩ := h3
        obtain ⟨l3, bk⟩ := fin .done (some (.exit id)) W3 h3
        exact ⟨h3, kf _ _ h3, Or.inr ⟨rfl, .exit id, (hIx _).putObj _ i3 (by omega) l3 rfl, bk⟩⟩
      | goto t =>
        obtain ⟨h3, i3⟩ := h3
        obtain ⟨l3, bk⟩ := fin .done (some (.goto t)) W3 h3
        exact ⟨h3, kf _ _ h3, Or.inr ⟨rfl, .goto t, (hIx _).putObj _ i3 (by omega) l3 rfl, bk⟩⟩
      | panic ch => exact h3.elim
      | outgrown => exact h3.elim
    refine (CallsIn.inRound l₀ (callsIn_wide.2 (hseq l (fun pre W => I pre W ∧ W.heap[l]? = some (.loop (rc .ready none))) (fun pre W => ∃ c, Ix c pre W ∧ W.heap[l]? = some (.loop (rc .done (some c)))) W1 (hb0.trans (bV.mono hb0.size)) (owns_one hIt (by omega) (by omega)) (OwnT.ex fun c => owns_one (hIxt c) (by omega) (by omega)) rnd ⟨i1, l1⟩))).mono ?_
    rintro e W2 ⟨⟨v, rfl⟩, ⟨xs, hS, hi, hbl⟩ | ⟨pre, hSp, c, hi, hbl⟩⟩
    · rw [hrc] at hbl
      exact ⟨none, _, run_endLoop hbl (by simp [recOf]), hdone xs _ hS (hI.putObj _ hi (by omega) hbl rfl)⟩
    · rw [hrc] at hbl
      exact ⟨some c, _, run_endLoop hbl (by simp [recOf]), hstop c pre _ hSp ((hIx c).putObj _ hi (by omega) hbl rfl)⟩
end
end Go.Proofs.Ytilmicekpclmbaa
namespace Go.Proofs.Ytilmicekpclmbaa
set_option linter.unusedVariables false
set_option linter.unusedSimpArgs false
set_option maxRecDepth 100000
open Go.RowKit Go.Shelf
attribute [local go_sem] Oper.semAt_some

/-- What a round is given: a block's number, bytes in memory, a status. -/
structure PtV where
  at_ : Int
  A : Option Addr
  n : Nat
  cap : Nat
  bytes : List Int
  st : Int
def PtV.pt (x : PtV) : Pt := ⟨x.at_, x.bytes, x.st⟩
def ptEncs (x : PtV) : Array Value := #[.agg #[.int .i64 x.at_, .slice x.A x.n x.cap], .int .i64 x.st]
/-- What is known of it when it comes. -/
def PtR (B : Nat) (x : PtV) (W : World) : Prop :=
  (x.st = 0 ∧ ∃ g, x.A = some ⟨g, 0, none⟩ ∧ (x.bytes.length = x.n ∧ x.n ≤ 116 ∧ 2 ≤ x.at_ ∧ x.at_ < 512) ∧ Own W B g x.cap x.bytes) ∨ (x.st ≠ 0 ∧ x.A = none ∧ x.n = 0 ∧ x.cap = 0 ∧ x.bytes = [] ∧ (x.st = 6 ∨ x.st = 7))
/-- It comes next. -/
def PtNext (l : List Pt) (pre : List PtV) (x : PtV) : Prop := ∃ post, pre.map PtV.pt ++ x.pt :: post = l
def PtC (l : List Pt) (B : Nat) (pre : List PtV) (x : PtV) (W : World) : Prop := PtR B x W ∧ PtNext l pre x
def PtAll (l : List Pt) (xs : List PtV) : Prop := xs.map PtV.pt = l
def PtPart (l : List Pt) (pre : List PtV) : Prop := ∃ post, pre.map PtV.pt ++ post = l
theorem next_i64 {s : Dk} (ok : s.Ok) (i : Int) : I64x (stepN s i) := by
  have := (ldL_ok ok i).n
  exact this
theorem abide_below {β : Type} {T : List TypeId} {B : Nat} {J : β → World → Prop} (hJ : OwnT T B J) {s : β} {A A' : World} (h : J s A) (hb : Below A.heap.size A A') : J s A' := hJ s A A' none h (grown_below hb none) (fun r e => by cases e)
/-- The types of the iterator's own variables: a file, a store. -/
def partsT : List TypeId := [40, 24]
theorem StAt.kp {T : List TypeId} {n₀ : Nat} {V V' : World} {F : Nat → Prop} {b : Nat} {s : St} (h : StAt V F b s) (hF : ∀ q, F q → q < n₀) (k : KpT T n₀ V V') : StAt V' F b s := h.stay k.2.1 (fun q hq => k.1.block q (hF q hq))
theorem Arr.kp {T : List TypeId} {n₀ : Nat} {V V' : World} {g : Nat} {t : TypeId} {vs : List Value} (h : Arr V g t vs) (k : KpT T n₀ V V') (ht : t ∈ T) : Arr V' g t vs := h.same (k.2.2 g _ t _ h ht)
theorem stepC_rng {s : Dk} (ok : s.Ok) {nr place at_ : Int} (h : stepC s nr place at_ = 0) : 2 ≤ at_ ∧ at_ < 512 := by
  obtain ⟨L, h1, h2, _⟩ := stepC_zero.1 h
  have := leafD_right ok h1
  have := ok.n2
  exact ⟨h2, by omega⟩
theorem chainR_out {s : Dk} {nr : Int} {k : Nat} {place at_ : Int} (h : stepC s nr place at_ ≠ 0) : chainR s nr (k + 1) place at_ = [⟨0, [], stepC s nr place at_⟩] := by unfold chainR; rw [if_neg h]
theorem chainR_in {s : Dk} {nr : Int} {k : Nat} {place at_ : Int} (h : stepC s nr place at_ = 0) : chainR s nr (k + 1) place at_ = ⟨at_, stepB s at_, 0⟩ :: chainR s nr k (place + 1) (stepN s at_) := by
  show (if stepC s nr place at_ = 0 then _ else _) = _
  rw [if_pos h]
theorem chainR_end0 {s : Dk} {nr : Int} {place : Int} : chainR s nr 0 place 0 = [] := by unfold chainR; rw [if_pos rfl]
theorem chainR_end1 {s : Dk} {nr : Int} {place at_ : Int} (h : at_ ≠ 0) : chainR s nr 0 place at_ = [⟨0, [], 6⟩] := by unfold chainR; rw [if_neg h]
set_option maxHeartbeats 4000000 in
theorem parts_seq (F b s) (f : Fl) (Bf Bs : Nat) (w : World) (h : StAt w F b s) (hf : f.Ok) (hF : FlV w Bf f) (cs : Arr w Bs 24 [.pointer (some ⟨b, 0, none⟩)]) (hw : s.dk.wt.length ≤ 1000000) (n₀ : Nat) (hn : n₀ ≤ w.heap.size) (hFn : ∀ q, F q → q < n₀) (T : List TypeId) (hT : ∀ t, t ∈ partsT → t ∈ T) :
    SeqR Try.prog T 51 #[.pointer (some ⟨Bf, 0, none⟩), .pointer (some ⟨Bs, 0, none⟩)] ptEncs (PtC (chainP s.dk f) n₀) (KpT T n₀) (PtAll (chainP s.dk f)) (PtPart (chainP s.dk f)) w := by
  intro l J Jx W hW hJ hJx hY h0
  have H := Lib.hid h; have HY := Lib.hid hY; have HJ := Lib.hid hJ; have HFO := Lib.hid hf; have HW := Lib.hid hW; have HFV := Lib.hid hF; have HC := Lib.hid cs; have H0 := Lib.hid h0; have HT := Lib.hid hT; have HFN := Lib.hid hFn
  obtain ⟨fb0, fb1⟩ := hf.d
  obtain ⟨ff0, ff1⟩ := hf.c
  have hsz := hW.size
  have S0 := Lib.hid (h.below hW); have V0 := Lib.hid (Arr.below hF hW); have C0 := Lib.hid (Arr.below cs hW)
  clear h hY hJ hJx hf hW hF cs h0 hT hFn
  refine (callsIn_wide (n := 5)).1 ?_
  refine callsIn_of_wp Try.func51 rfl trivial ?_ rfl
  simp only [Try.ntmps51, List.size_toArray, List.length_cons, List.length_nil, Nat.reduceAdd, Nat.reduceSub, Array.replicate_succ, Array.replicate_zero, List.push_toArray, List.append_toArray, List.nil_append, List.cons_append]
  obtain ⟨-, -, v2, v3⟩ := FlV.cells V0.out
  gi_wp2
  gi_loopw [4, 13] (fun av kv wr => ∃ (j : Nat) (pre : List PtV) (a : Int), av = .int .i64 a ∧ kv = .int .i64 j ∧ j ≤ f.blocks.toNat ∧ I64x a ∧ J pre wr ∧ (StAt wr F b s ∧ FlV wr Bf f ∧ Arr wr Bs 24 [.pointer (some ⟨b, 0, none⟩)] ∧ n₀ ≤ wr.heap.size) ∧ pre.map PtV.pt ++ chainR s.dk f.file (f.blocks.toNat - j) j a = chainP s.dk f)
    (fun _ kv _ => f.blocks.toNat - (intOf kv).toNat)
  case atStart => exact ⟨0, [], f.first, rfl, rfl, Nat.zero_le _, HFO.out.c, H0.out, ⟨S0.out, V0.out, C0.out, by omega⟩, rfl⟩
  case round =>
    obtain ⟨j, pre, a, rfl, rfl, hj, ha, hJs, ⟨hs1, hv1, hc1, hwr⟩, hch⟩ := hrel
    have HJs := Lib.hid hJs; have HCH := Lib.hid hch; have HA := Lib.hid ha
    obtain ⟨a0, a1⟩ := id ha
    have S1 := Lib.hid hs1; have FV1 := Lib.hid hv1; have C1 := Lib.hid hc1
    clear hJs hch ha hs1 hv1 hc1
    by_cases hlt : (j : Int) < f.blocks
    · have i1 : decide ((j : Int) < f.blocks) = true := by rw [decide_eq_true_eq]; exact hlt
      obtain ⟨y0, y1, y2, y3⟩ := FlV.cells FV1.out
      have ys : wr.cell? ⟨Bs, 0, none⟩ = some (.pointer (some ⟨b, 0, none⟩)) := C1.out.cell 0
      have ST := Lib.hid (step_any F b s f (j : Int) a wr S1.out HFO.out ⟨by omega, by omega⟩ HA.out hw)
      have OKD := Lib.hid S1.out.dok
      have j0 : (0 : Int) ≤ (j : Int) := by omega
      have j1 : (j : Int) ≤ 9223372036854775806 := by omega
      obtain ⟨kk, hkk⟩ : ∃ kk, f.blocks.toNat - j = kk + 1 := ⟨f.blocks.toNat - j - 1, by omega⟩
      have HKK := Lib.hid hkk
      clear hkk
      gi_wp2_with fail
      refine ⟨trivial, (callsIn_wide.2 ST.out).mono ?_⟩
      rintro e w2 ⟨b2, ⟨hc, g, c, m, hm, rfl, hown⟩ | ⟨hc, rfl⟩⟩
      · have NX := Lib.hid (next_i64 OKD.out a)
        have S2 := Lib.hid (S1.out.below b2); have FV2 := Lib.hid (Arr.below FV1.out b2); have C2 := Lib.hid (C1.out.below b2)
        have hw2 : n₀ ≤ w2.heap.size := by have := b2.size; omega
        have J2 := Lib.hid (abide_below HJ.out HJs.out b2)
        have LN := Lib.hid (stepB_len OKD.out a)
        have LZ := Lib.hid (ldL_size OKD.out a)
        have HM := Lib.hid hm; have HCC := Lib.hid hc; have HO := Lib.hid hown
        have hy := HY.out pre ⟨a, some ⟨g, 0, none⟩, m, c, stepB s.dk a, 0⟩ w2 J2.out ⟨Or.inl ⟨rfl, g, rfl, ⟨by have := LN.out; have := HM.out; show (stepB s.dk a).length = m; omega, by have := HM.out; have := LZ.out; show m ≤ 116; omega, (stepC_rng OKD.out HCC.out).1, (stepC_rng OKD.out HCC.out).2⟩, HO.out.lower hwr⟩, ⟨chainR s.dk f.file kk (j + 1) (stepN s.dk a), by rw [← HCH.out, HKK.out, chainR_in HCC.out]; rfl⟩⟩ 0
        obtain ⟨fn, tmps, assign, body, hy, hR⟩ := hy
        unfold ptEncs at hy
        dsimp only at hy
        have HR := Lib.hid hR
        obtain ⟨nx, hnx⟩ : ∃ nx, stepN s.dk a = nx := ⟨_, rfl⟩
        rw [hnx] at NX ⊢
        have HNX := Lib.hid hnx
        obtain ⟨nx0, nx1⟩ := id NX.out
        clear ST b2 hc hm hown hR hnx y0 y1 y2 y3 ys
        gi_wp2
        refine (round_deep HR.out).mono ?_
        rintro e W3 ⟨-, ⟨rfl, hJ3, hk3⟩ | ⟨rfl, hJx3⟩⟩
        · have HJ3 := Lib.hid hJ3; have HK3 := Lib.hid hk3
          clear hJ3 hk3 hy
          gi_wp2
          go_roundw
          case rel =>
            refine ⟨j + 1, _, nx, rfl, by go_num, by omega, NX.out, HJ3.out, ⟨S2.out.kp HFN.out HK3.out, Arr.kp FV2.out HK3.out (HT.out _ (by decide)), C2.out.kp HK3.out (HT.out _ (by decide)), Nat.le_trans hw2 HK3.out.2.1⟩, ?_⟩
            rw [← HCH.out, List.map_append, List.append_assoc, HKK.out, chainR_in HCC.out]
            have e1 : f.blocks.toNat - (j + 1) = kk := by have := HKK.out; omega
            rw [e1, HNX.out]
            rfl
          case measure => simp [intOf]; omega
        · have HJx3 := Lib.hid hJx3
          clear hJx3 hy
          gi_wp2
          refine bodyPost_ret (results_none rfl _ _ _) rfl ?_
          refine ⟨⟨_, rfl⟩, Or.inr ⟨_, ?_, HJx3.out⟩⟩
          refine ⟨chainR s.dk f.file kk (j + 1) nx, ?_⟩
          rw [← HCH.out, List.map_append, List.append_assoc, HKK.out, chainR_in HCC.out, HNX.out]
          rfl
      · skip
        have J2 := Lib.hid (abide_below HJ.out HJs.out b2)
        have HCC := Lib.hid hc
        have hcs : stepC s.dk f.file j a = 6 ∨ stepC s.dk f.file j a = 7 := by rcases stepC_cases s.dk f.file j a with q | q | q; exact absurd q hc; exact Or.inl q; exact Or.inr q
        have hy := HY.out pre ⟨0, none, 0, 0, [], stepC s.dk f.file j a⟩ w2 J2.out ⟨Or.inr ⟨hc, rfl, rfl, rfl, rfl, hcs⟩, ⟨[], by rw [← HCH.out, HKK.out, chainR_out HCC.out]; rfl⟩⟩ 0
        obtain ⟨fn, tmps, assign, body, hy, hR⟩ := hy
        unfold ptEncs at hy
        dsimp only at hy
        have HR := Lib.hid hR
        have FIN : Hid ((pre ++ [(⟨0, none, 0, 0, [], stepC s.dk f.file j a⟩ : PtV)]).map PtV.pt = chainP s.dk f) := Lib.hid (by
          rw [← HCH.out, List.map_append, HKK.out, chainR_out HCC.out]; rfl)
        obtain ⟨q, hq⟩ : ∃ q, stepC s.dk f.file j a = q := ⟨_, rfl⟩
        rw [hq] at hc hcs hy FIN ⊢
        have ne : (q != 0) = true := by rw [bne_iff_ne]; exact hc
        have HQ := Lib.hid hq
        clear ST b2 hR y0 y1 y2 y3 ys hc hq hcs
        gi_wp2
        refine (round_deep HR.out).mono ?_
        rintro e W3 ⟨-, ⟨rfl, hJ3, hk3⟩ | ⟨rfl, hJx3⟩⟩
        · have HJ3 := Lib.hid hJ3
          clear hJ3 hk3 hy
          gi_wp2
          refine bodyPost_ret (results_none rfl _ _ _) rfl ?_
          exact ⟨⟨_, rfl⟩, Or.inl ⟨_, FIN.out, by rw [← HQ.out]; exact HJ3.out⟩⟩
        · have HJx3 := Lib.hid hJx3
          clear hJx3 hy
          gi_wp2
          refine bodyPost_ret (results_none rfl _ _ _) rfl ?_
          exact ⟨⟨_, rfl⟩, Or.inr ⟨_, ⟨[], by rw [List.append_nil]; exact FIN.out⟩, by rw [← HQ.out]; exact HJx3.out⟩⟩
    · have i1 : decide ((j : Int) < f.blocks) = false := by rw [decide_eq_false_iff_not]; exact hlt
      have e0 : f.blocks.toNat - j = 0 := by omega
      have E0 := Lib.hid e0
      clear e0
      by_cases hz : a = 0
      · have d0 : (a != 0) = false := by simp [hz]
        have FIN : Hid (pre.map PtV.pt = chainP s.dk f) := Lib.hid (by rw [← HCH.out, E0.out, hz, chainR_end0, List.append_nil])
        clear hz
        gi_wp2
        go_end0
        exact ⟨⟨_, rfl⟩, Or.inl ⟨pre, FIN.out, HJs.out⟩⟩
      · have d0 : (a != 0) = true := by simp [hz]
        have HZ := Lib.hid hz
        have FIN : Hid ((pre ++ [(⟨0, none, 0, 0, [], 6⟩ : PtV)]).map PtV.pt = chainP s.dk f) := Lib.hid (by rw [← HCH.out, E0.out, chainR_end1 hz, List.map_append]; rfl)
        have hy := HY.out pre ⟨0, none, 0, 0, [], 6⟩ wr HJs.out ⟨Or.inr ⟨by decide, rfl, rfl, rfl, rfl, Or.inl rfl⟩, ⟨[], by rw [← HCH.out, E0.out, chainR_end1 HZ.out]; rfl⟩⟩ 0
        obtain ⟨fn, tmps, assign, body, hy, hR⟩ := hy
        unfold ptEncs at hy
        dsimp only at hy
        have HR := Lib.hid hR
        clear hz hR
        gi_wp2
        refine (round_deep HR.out).mono ?_
        rintro e W3 ⟨-, ⟨rfl, hJ3, hk3⟩ | ⟨rfl, hJx3⟩⟩
        · have HJ3 := Lib.hid hJ3
          clear hJ3 hk3 hy
          gi_wp2
          go_end0
          exact ⟨⟨_, rfl⟩, Or.inl ⟨_, FIN.out, HJ3.out⟩⟩
        · have HJx3 := Lib.hid hJx3
          clear hJx3 hy
          gi_wp2
          go_end0
          exact ⟨⟨_, rfl⟩, Or.inr ⟨_, ⟨[], by rw [List.append_nil]; exact FIN.out⟩, HJx3.out⟩⟩
end Go.Proofs.Ytilmicekpclmbaa
namespace Go.Proofs.Ytilmicekpclmbaa
set_option linter.unusedVariables false
set_option linter.unusedSimpArgs false
set_option maxRecDepth 100000
open Go.RowKit Go.Shelf
attribute [local go_sem] Oper.semAt_some

theorem mk_func : ∀ (fn : Fn) (first cap : Array Value) (w : World), (Instr.makeFunc fn first cap).run Try.prog w = .ok (.func fn first cap) w := fun _ _ _ _ => rfl
theorem KeepsFrom.up {B B' : Nat} {X Y : World} (h : KeepsFrom B X Y) (hB : B ≤ B') : KeepsFrom B' X Y := ⟨h.size, fun k o h1 h2 h3 => h.same k o (by omega) h2 h3⟩
theorem parts_any (b : Nat) (f : Fl) (w : World) :
    Calls Try.prog 37 #[.pointer (some ⟨b, 0, none⟩), .agg #[.int .i64 f.name, .int .i64 f.file, .int .i64 f.first, .int .i64 f.blocks]] w fun e w' => ∃ Bf Bs, e = .returned (.func (.func 51) #[] #[.pointer (some ⟨Bf, 0, none⟩), .pointer (some ⟨Bs, 0, none⟩)]) ∧ FlV w' Bf f ∧ Arr w' Bs 24 [.pointer (some ⟨b, 0, none⟩)] ∧ Below w.heap.size w w' := by
  have hmf := mk_func
  have a1 := Arr.new w 24 [.pointer (some ⟨b, 0, none⟩)]
  have a2 := FlV.new (w.alloc (.cells #[.pointer (some ⟨b, 0, none⟩)] 24)) f
  have A1 := Lib.hid (a1.below ((Below.refl _ _).alloc (Nat.le_refl _) (.cells #[.int .i64 f.name, .int .i64 f.file, .int .i64 f.first, .int .i64 f.blocks] 40)))
  have A2 := Lib.hid a2
  have B := Lib.hid (((Below.refl _ w).alloc (Nat.le_refl _) (.cells #[.pointer (some ⟨b, 0, none⟩)] 24)).alloc (by simp) (.cells #[.int .i64 f.name, .int .i64 f.file, .int .i64 f.first, .int .i64 f.blocks] 40))
  clear a1 a2
  go_enter Try.func37, Try.ntmps37
  go_wp2
  go_ret
  exact ⟨_, _, rfl, by have := A2.out; simpa using this, A1.out, B.out⟩
theorem blocks_any (b : Nat) (f : Fl) (w : World) :
    Calls Try.prog 14 #[.pointer (some ⟨b, 0, none⟩), .agg #[.int .i64 f.name, .int .i64 f.file, .int .i64 f.first, .int .i64 f.blocks]] w fun e w' => ∃ Bs Bf, e = .returned (.func (.func 36) #[] #[.pointer (some ⟨Bs, 0, none⟩), .pointer (some ⟨Bf, 0, none⟩)]) ∧ FlV w' Bf f ∧ Arr w' Bs 24 [.pointer (some ⟨b, 0, none⟩)] ∧ Below w.heap.size w w' := by
  have hmf := mk_func
  have a1 := Arr.new w 24 [.pointer (some ⟨b, 0, none⟩)]
  have a2 := FlV.new (w.alloc (.cells #[.pointer (some ⟨b, 0, none⟩)] 24)) f
  have A1 := Lib.hid (a1.below ((Below.refl _ _).alloc (Nat.le_refl _) (.cells #[.int .i64 f.name, .int .i64 f.file, .int .i64 f.first, .int .i64 f.blocks] 40)))
  have A2 := Lib.hid a2
  have B := Lib.hid (((Below.refl _ w).alloc (Nat.le_refl _) (.cells #[.pointer (some ⟨b, 0, none⟩)] 24)).alloc (by simp) (.cells #[.int .i64 f.name, .int .i64 f.file, .int .i64 f.first, .int .i64 f.blocks] 40))
  clear a1 a2
  go_enter Try.func14, Try.ntmps14
  go_wp2
  go_ret
  exact ⟨_, _, rfl, by have := A2.out; simpa using this, A1.out, B.out⟩

def blkEncs (x : PtV) : Array Value := #[.slice x.A x.n x.cap, .int .i64 x.st]
def blocksT : List TypeId := [40, 24, 83]
theorem arr_ownT {β : Type} {T : List TypeId} {B q : Nat} {t : TypeId} {vs : List Value} (h : q < B) : OwnT T B (fun (_ : β) W => Arr W q t vs) := OwnT.old fun s W W' hs k _ => hs.same (k q h hs.lt)
theorem size_ownT {β : Type} {T : List TypeId} {B n₀ : Nat} : OwnT T B (fun (_ : β) W => n₀ ≤ W.heap.size) := fun s W W' row hs hg hr => Nat.le_trans hs hg.size
theorem PtR.grown {B : Nat} {x : PtV} {X Y : World} {row : Option Nat} {C : Nat} (h : PtR B x X) (hg : X.grownBy Y row) (hr : ∀ r, row = some r → C ≤ r ∧ ∃ o : Obj, X.heap[r]? = some o ∧ o.isCells = false) : PtR B x Y := by
  rcases h with ⟨h1, g, h2, h3, h5⟩ | h
  · refine Or.inl ⟨h1, g, h2, h3, ?_⟩
    obtain ⟨cur, e5⟩ := h5.heap
    exact (keep_of_grown hg).own h5 (not_row e5 hr)
  · exact Or.inr h
theorem PtR.below {B : Nat} {x : PtV} {X Y : World} (h : PtR B x X) (hb : Below X.heap.size X Y) : PtR B x Y := by
  rcases h with ⟨h1, g, h2, h3, h5⟩ | h
  · exact Or.inl ⟨h1, g, h2, h3, h5.below hb⟩
  · exact Or.inr h
theorem round_in {l m m' : Nat} {P : Program} {l' : Nat} {f : FuncId} {tmps : Array Value} {assign body : Code} {w : World} {R : Ending → World → Prop}
    (h : RoundIn Fence.wide m P l f tmps assign body w R) : RoundIn (Fence.wide.inRound l') m' P l f tmps assign body w R := round_deep (m' := m') h
theorem Arr.kept {X Y : World} {q : Nat} {t : TypeId} {vs : List Value} {row : Option Nat} {C : Nat} (h : Arr X q t vs) (hg : X.grownBy Y row) (hr : ∀ r, row = some r → C ≤ r ∧ ∃ o : Obj, X.heap[r]? = some o ∧ o.isCells = false) : Arr Y q t vs :=
  h.same (hg.block q h.lt (fun e => not_row h hr e.symm))
set_option maxHeartbeats 4000000 in
theorem blocks_seq (F b s) (f : Fl) (Bs Bf : Nat) (w : World) (h : StAt w F b s) (hf : f.Ok) (hF : FlV w Bf f) (cs : Arr w Bs 24 [.pointer (some ⟨b, 0, none⟩)]) (hw : s.dk.wt.length ≤ 1000000) (n₀ : Nat) (hn : n₀ ≤ w.heap.size) (hFn : ∀ q, F q → q < n₀) (T : List TypeId) (hT : ∀ t, t ∈ blocksT → t ∈ T) :
    SeqR Try.prog T 36 #[.pointer (some ⟨Bs, 0, none⟩), .pointer (some ⟨Bf, 0, none⟩)] blkEncs (PtC (chainP s.dk f) n₀) (KpT T n₀) (PtAll (chainP s.dk f)) (PtPart (chainP s.dk f)) w := by
  intro l J Jx W hW hJ hJx hY h0
  have HY := Lib.hid hY; have HJ := Lib.hid hJ; have HJX := Lib.hid hJx; have HFO := Lib.hid hf; have HT := Lib.hid hT; have HFN := Lib.hid hFn; have H0 := Lib.hid h0
  have hsz := hW.size
  have S0 := Lib.hid (h.below hW); have V0 := Lib.hid (Arr.below hF hW); have C0 := Lib.hid (Arr.below cs hW)
  clear h hY hJ hJx hf hW hF cs h0 hT hFn
  refine (callsIn_wide (n := 5)).1 ?_
  refine callsIn_of_wp_marks Try.func36 rfl trivial ?_ rfl
  simp only [Try.ntmps36, List.size_toArray, List.length_cons, List.length_nil, Nat.reduceAdd, Nat.reduceSub, Array.replicate_succ, Array.replicate_zero, List.push_toArray, List.append_toArray, List.nil_append, List.cons_append]
  refine wpIn_wide.2 ?_
  go_upto_region 1 with fail
  obtain ⟨W1, hW1⟩ : ∃ W1, W1 = W.alloc (.cells #[.func (.yield l) #[] #[]] 83) := ⟨_, rfl⟩
  rw [← hW1]
  obtain ⟨yb, hyb⟩ : ∃ yb, yb = W.heap.size := ⟨_, rfl⟩
  rw [← hyb]
  have hB1 : Below W.heap.size W W1 := by rw [hW1]; exact (Below.refl _ W).alloc (Nat.le_refl _) _
  have Y1 : Hid (Arr W1 yb 83 [.func (.yield l) #[] #[]]) := Lib.hid (by rw [hW1, hyb]; exact Arr.new W _ _)
  have S1 := Lib.hid (S0.out.below hB1); have V1 := Lib.hid (Arr.below V0.out hB1); have C1 := Lib.hid (C0.out.below hB1)
  have J1 := Lib.hid (abide_below HJ.out H0.out hB1)
  have hW1s : W.heap.size ≤ W1.heap.size := hB1.size
  clear hW1 hB1 S0 V0 C0 H0 hyb
  obtain ⟨y0, y1, y2, y3⟩ := FlV.cells V1.out
  have ys : W1.cell? ⟨Bs, 0, none⟩ = some (.pointer (some ⟨b, 0, none⟩)) := C1.out.cell 0
  have PA := Lib.hid (parts_any b f W1)
  go_wp2_with fail
  refine PA.out.mono ?_
  rintro e W2 ⟨Bf2, Bs2, rfl, hv2, hc2, b2⟩
  have hW2s : W1.heap.size ≤ W2.heap.size := b2.size
  have S2 := Lib.hid (S1.out.below b2); have Y2 := Lib.hid (Y1.out.below b2)
  have J2 := Lib.hid (abide_below HJ.out J1.out b2)
  have hyl : yb < W2.heap.size := Y2.out.lt
  have SQ := Lib.hid (parts_seq F b s f Bf2 Bs2 W2 S2.out HFO.out hv2 hc2 hw n₀ (by omega) HFN.out T (fun t ht => HT.out t (by unfold partsT at ht; unfold blocksT; simp at ht ⊢; rcases ht with e | e <;> simp [e])))
  clear PA y0 y1 y2 y3 ys b2 hv2 hc2 S1 V1 C1 J1 Y1
  go_wp2_with fail
  refine (wpIn_wide (n := 5)).1 ?_
  refine range_R (m := 5) (gf := 51) (lb := #[.pointer (some ⟨Bf2, 0, none⟩), .pointer (some ⟨Bs2, 0, none⟩)]) rfl (enters_of Try.func51 (by kernel_rfl) rfl)
    SQ.out KpT.trans (KpT.put (by omega)) (Below.refl _ _) (fun _ => rfl)
    (fun pre V => (J pre V ∧ Arr V yb 83 [.func (.yield l) #[] #[]]) ∧ W2.heap.size ≤ V.heap.size)
    (fun c pre V => c = .ret ∧ Jx pre V)
    (((HJ.out.up (by omega) (fun _ h => h)).and (arr_ownT hyl)).and size_ownT)
    (fun c => (OwnT.pure _ _ (fun _ => c = .ret)).and (HJX.out.up (by omega) (fun _ h => h)))
    ⟨⟨J2.out, Y2.out⟩, Nat.le_refl _⟩
    (fun pre x a' V => ∃ p, W2.heap.size ≤ p ∧ Arr V p 88 [.int .i64 x.at_, .slice x.A x.n x.cap] ∧ PtC (chainP s.dk f) n₀ pre x V ∧ a' = { tmps := #[.func (.yield l) #[] #[], .pointer (some ⟨Bs, 0, none⟩), .pointer (some ⟨Bf, 0, none⟩), .pointer (some ⟨yb, 0, none⟩), .pointer (some ⟨p, 0, none⟩), .int .i64 x.st, .pointer (some ⟨b, 0, none⟩), .agg #[.int .i64 f.name, .int .i64 f.file, .int .i64 f.first, .int .i64 f.blocks], .func (.func 51) #[] #[.pointer (some ⟨Bf2, 0, none⟩), .pointer (some ⟨Bs2, 0, none⟩)], .agg #[.int .i64 x.at_, .slice x.A x.n x.cap], .int .i64 x.st, undef, undef, undef, undef, undef, undef], defers := [] })
    (fun pre x a' _ X Y row hs hg hr => by obtain ⟨p, h1, h2, h3, h4⟩ := hs; exact ⟨p, h1, h2.kept hg hr, ⟨h3.1.grown hg hr, h3.2⟩, h4⟩)
    ?assign ?body ?done ?stop
  case assign =>
    rintro l2 pre x V K ⟨⟨hj, hy⟩, hn2⟩ hR hK
    have HK := Lib.hid hK; have HR := Lib.hid hR; have HI := Lib.hid (And.intro hj hy)
    clear hK hR hj hy
    unfold ptEncs
    dsimp only
    gi_wp2
    exact HK.out _ _ ((KeepsOthers.alloc _ _).from _) (KpT.of_below ((Below.refl _ V).alloc (Nat.le_refl _) _) (by omega)) ⟨⟨abide_below HJ.out HI.out.1 ((Below.refl _ V).alloc (Nat.le_refl _) _), HI.out.2.below ((Below.refl _ V).alloc (Nat.le_refl _) _)⟩, by simp; omega⟩ ⟨V.heap.size, hn2, Arr.new V _ _, ⟨HR.out.1.below ((Below.refl _ V).alloc (Nat.le_refl _) _), HR.out.2⟩, rfl⟩
  case body =>
    rintro l2 pre x a' V hl ⟨r, hr⟩ ⟨⟨hj, hy⟩, hn2⟩ ⟨p, hp, hP, hRx, rfl⟩
    obtain ⟨fn, tmps, assign, body, hyq, hRr⟩ := HY.out pre x V hj hRx 0
    unfold blkEncs at hyq
    have c0 := hy.cell 0
    have p1 : V.cell? ⟨p, 1, none⟩ = some (.slice x.A x.n x.cap) := hP.cell 1
    have HR := Lib.hid hRr; have HYB := Lib.hid hy
    clear hRr hy hj hP hRx hr
    gi_wp2
    refine (round_in HR.out).mono ?_
    rintro e W3 ⟨hkf, ⟨rfl, hJ3, hk3⟩ | ⟨rfl, hJx3⟩⟩
    · have HKF := Lib.hid (KeepsFrom.up hkf (B' := W2.heap.size) (by omega)); have HJ3 := Lib.hid hJ3; have HK3 := Lib.hid hk3
      clear hkf hJ3 hk3 hyq c0 p1
      gi_wp2
      exact ⟨HKF.out, HK3.out, ⟨HJ3.out, HYB.out.kp HK3.out (HT.out _ (by decide))⟩, Nat.le_trans hn2 HK3.out.2.1⟩
    · have HKF := Lib.hid (KeepsFrom.up hkf (B' := W2.heap.size) (by omega)); have HJx3 := Lib.hid hJx3
      clear hkf hJx3 hyq c0 p1
      gi_wp2
      exact ⟨HKF.out, rfl, HJx3.out⟩
  case done =>
    rintro D xs V hD hS ⟨⟨hj, hy⟩, hs⟩ hK
    have HJ3 := Lib.hid (HJ.out.from.putObj (.deferred none) hj (by omega) hK rfl)
    have HS := Lib.hid hS; have HK := Lib.hid hK
    clear hj hy hS hK
    go_wp2
    refine ⟨by simp, .inl ⟨_, _, rfl, run_takeDeferred HK.out, ?_⟩⟩
    exact ⟨_, results_none rfl _ _ _, ⟨_, rfl⟩, Or.inl ⟨xs, HS.out, HJ3.out⟩⟩
  case stop =>
    rintro D c pre V hD hSp ⟨rfl, hjx⟩ hK
    have HJ3 := Lib.hid (HJX.out.from.putObj (.deferred none) hjx (by omega) hK rfl)
    have HS := Lib.hid hSp; have HK := Lib.hid hK
    clear hjx hSp hK
    refine wpIn_wide.2 ?_
    go_wp2
    refine ⟨by simp, .inl ⟨_, _, rfl, run_takeDeferred HK.out, ?_⟩⟩
    exact ⟨_, results_none rfl _ _ _, ⟨_, rfl⟩, Or.inr ⟨pre, HS.out, HJ3.out⟩⟩
end Go.Proofs.Ytilmicekpclmbaa
