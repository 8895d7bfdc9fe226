/-
  A range over a function whose elements lie in memory: what an iterator tells of each one in the world of its round; the law for a loop outside of rounds, and within one.
-/
import Derived.RangeFuncNested
import Derived.RangeFuncBound
import Derived.RangeFuncCalls
import Derived.RangeFuncLeaves
import Derived.Test.YtjjkddahfmkhoaaProg
namespace Go.Proofs.Ytjjkddahfmkhoaa
set_option linter.unusedVariables false
set_option linter.unusedSimpArgs false
open Go.RowKit

/-- A call of yield, at whatever depth. -/
def Yld (P : Program) (l : Nat) (args : Array Value) (W : World) (R : Ending → World → Prop) : Prop := ∀ m, YieldAt Fence.wide m P l args W R
theorem Yld.mono {P : Program} {l : Nat} {args : Array Value} {W : World} {R R' : Ending → World → Prop} (h : Yld P l args W R) (k : ∀ e w, R e w → R' e w) : Yld P l args W R' := fun m => (h m).mono k
/-- One block may be turned: one that lies at or beyond B and is no cells, or cells of a type of the list. -/
def Turn (T : List TypeId) (B : Nat) (W : World) (row : Option Nat) : Prop := ∀ r, row = some r → B ≤ r ∧ ∃ o, W.heap[r]? = some o ∧ (o.isCells = false ∨ ∃ cur t fr, o = .cells cur t fr ∧ t ∈ T)
def OwnT {β : Type} (T : List TypeId) (B : Nat) (I : β → World → Prop) : Prop := ∀ s W W' row, I s W → W.grownBy W' row → Turn T B W row → I s W'
theorem OwnT.from {β : Type} {T : List TypeId} {B : Nat} {I : β → World → Prop} (h : OwnT T B I) : OwnFrom B I := fun s W W' row hs hg hr => h s W W' row hs hg (fun r e => by obtain ⟨h1, o, h2, h3⟩ := hr r e; exact ⟨h1, o, h2, Or.inl h3⟩)
theorem OwnT.and {β : Type} {T : List TypeId} {B : Nat} {I I' : β → World → Prop} (h : OwnT T B I) (h' : OwnT T B I') : OwnT T B (fun s W => I s W ∧ I' s W) := fun s W W' row hs hg hr => ⟨h s W W' row hs.1 hg hr, h' s W W' row hs.2 hg hr⟩
theorem OwnT.ex {β γ : Type} {T : List TypeId} {B : Nat} {I : γ → β → World → Prop} (h : ∀ c, OwnT T B (I c)) : OwnT T B (fun s W => ∃ c, I c s W) := fun s X Y row ⟨c, hc⟩ hg hr => ⟨c, h c s X Y row hc hg hr⟩
theorem OwnT.pure {β : Type} (T : List TypeId) (B : Nat) (p : β → Prop) : OwnT T B (fun s (_ : World) => p s) := fun _ _ _ _ hs _ _ => hs
theorem OwnT.up {β : Type} {T T' : List TypeId} {B B' : Nat} {I : β → World → Prop} (h : OwnT T B I) (hB : B ≤ B') (hT : ∀ t, t ∈ T' → t ∈ T) : OwnT T' B' I := fun s W W' row hs hg hr => h s W W' row hs hg (fun r e => by
  obtain ⟨h1, o, h2, h3⟩ := hr r e
  refine ⟨by omega, o, h2, ?_⟩
  rcases h3 with h3 | ⟨cur, t, fr, h3, h4⟩
  · exact Or.inl h3
  · exact Or.inr ⟨cur, t, fr, h3, hT t h4⟩)
/-- What lies in blocks below B stays. -/
theorem OwnT.old {β : Type} {T : List TypeId} {B : Nat} {I : β → World → Prop} (h : ∀ s W W', I s W → (∀ k, k < B → k < W.heap.size → W'.heap[k]? = W.heap[k]?) → W.heap.size ≤ W'.heap.size → I s W') : OwnT T B I := fun s W W' row hs hg hr =>
  h s W W' hs (fun k h1 h2 => hg.block k h2 (fun e => by have := (hr k e.symm).1; omega)) hg.size
/-- Cells of another type, and what lay below, are never turned. -/
theorem Turn.other {T : List TypeId} {B : Nat} {W W' : World} {row : Option Nat} (hg : W.grownBy W' row) (hr : Turn T B W row) {k : Nat} {cur : Array Value} {t : TypeId} {fr : Nat × Nat} (hk : W.heap[k]? = some (.cells cur t fr)) (ht : k < B ∨ t ∉ T) : W'.heap[k]? = W.heap[k]? :=
  hg.block k (Array.getElem?_eq_some_iff.1 hk).1 (fun e => by
    obtain ⟨h1, o, h2, h3⟩ := hr k e.symm
    rw [hk] at h2
    injection h2 with h2
    subst h2
    rcases h3 with h3 | ⟨cur', t', fr', h3, h4⟩
    · cases h3
    · injection h3 with _ h3
      subst h3
      rcases ht with ht | ht
      · omega
      · exact ht h4)
theorem ownT_below {β : Type} {T : List TypeId} {n₀ B : Nat} {w₀ : World} (h : n₀ ≤ B) (h2 : n₀ ≤ w₀.heap.size) : OwnT T B (fun (_ : β) W => Below n₀ w₀ W) := fun _ X Y row hs hg hr =>
  hs.trans ⟨hg.os, hg.tape, hg.output, hg.size, fun k hk => hg.block k (by have := hs.size; omega) (fun e => by have := (hr k e.symm).1; omega)⟩
/-- What an iterator promises: R tells of an element in the world in which it comes; it turns cells of the types T alone. -/
def SeqR {α : Type} (P : Program) (T : List TypeId) (g : Nat) (lb : Array Value) (encs : α → Array Value) (R : List α → α → World → Prop) (Kp : World → World → Prop) (S Sp : List α → Prop) (w : World) : Prop :=
  ∀ (l : Nat) (J Jx : List α → World → Prop) (W : World), Below w.heap.size w W → OwnT T W.heap.size J → OwnT T W.heap.size Jx →
    (∀ pre x W1, J pre W1 → R pre x W1 → Yld P l (encs x) W1 fun e W' => KeepsFrom W.heap.size W1 W' ∧ ((e = .returned (.bool true) ∧ J (pre ++ [x]) W' ∧ Kp W1 W') ∨ (e = .returned (.bool false) ∧ Jx (pre ++ [x]) W'))) →
    J [] W →
    Calls P g (#[.func (.yield l) #[] #[]] ++ lb) W fun e W' => (∃ v, e = .returned v) ∧ ((∃ xs, S xs ∧ J xs W') ∨ (∃ pre, Sp pre ∧ Jx pre W'))

/-- What a round leaves: what lay below n₀, and all cells of the types T. -/
def KpT (T : List TypeId) (n₀ : Nat) (V V' : World) : Prop := Below n₀ V V' ∧ V.heap.size ≤ V'.heap.size ∧ ∀ (k : Nat) (cur : Array Value) (t : TypeId) (fr : Nat × Nat), V.heap[k]? = some (Obj.cells cur t fr) → t ∈ T → V'.heap[k]? = V.heap[k]?
theorem KpT.refl (T : List TypeId) (n₀ : Nat) (V : World) : KpT T n₀ V V := ⟨Below.refl _ _, Nat.le_refl _, fun _ _ _ _ _ _ => rfl⟩
theorem KpT.trans {T : List TypeId} {n₀ : Nat} {A B C : World} (h : KpT T n₀ A B) (k : KpT T n₀ B C) : KpT T n₀ A C :=
  ⟨h.1.trans k.1, Nat.le_trans h.2.1 k.2.1, fun q cur t fr h1 h2 => by
    have e := h.2.2 q cur t fr h1 h2
    rw [k.2.2 q cur t fr (e.trans h1) h2, e]⟩
theorem KpT.of_below {T : List TypeId} {n₀ : Nat} {V V' : World} (hb : Below V.heap.size V V') (h : n₀ ≤ V.heap.size) : KpT T n₀ V V' := ⟨hb.mono h, hb.size, fun q cur t fr h1 _ => hb.block q (Array.getElem?_eq_some_iff.1 h1).1⟩
theorem KpT.less {T T' : List TypeId} {n₀ : Nat} {V V' : World} (h : KpT T n₀ V V') (hT : ∀ t, t ∈ T' → t ∈ T) : KpT T' n₀ V V' := ⟨h.1, h.2.1, fun q cur t fr h1 h2 => h.2.2 q cur t fr h1 (hT t h2)⟩
theorem KpT.put {T : List TypeId} {n₀ : Nat} {w : World} (hn : n₀ ≤ w.heap.size) (W : World) (l : Nat) (o o' : Obj) (hl : w.heap.size ≤ l) (h : W.heap[l]? = some o) (ho : o.isCells = false) (_ : o.isWalk = false) : KpT T n₀ W (W.putObj l o') :=
  ⟨belowK_b hn W l o o' hl h ho (by assumption), by simp, fun q cur t fr h1 _ => World.putObj_heap_other (fun e => by subst e; rw [h] at h1; injection h1 with h1; subst h1; cases ho)⟩
/-- A loop's record. -/
def recOf (fn : FuncId) (tmps : Array Value) (ps : Array Tmp) (assign body : Code) (D : Nat) (st : LoopState) (pe : Option Code) : Loop := { state := st, pending := pe, fn, tmps, params := ps, assign, body, defers := D }
/-- How a round's body may be left: its end, and each jump. -/
def leftBy (B l : Nat) (rc : LoopState → Option Code → Loop) (W2 : World) (R' : Ending → World → Prop) : Exit → Act → World → Prop
  | .normal, _, W3 => KeepsFrom B W2 W3 ∧ R' (.returned (.bool true)) (W3.putObj l (.loop (rc .ready none)))
  | .ret, _, W3 => KeepsFrom B W2 W3 ∧ R' (.returned (.bool false)) (W3.putObj l (.loop (rc .done (some .ret))))
  | .exit id, _, W3 => KeepsFrom B W2 W3 ∧ R' (.returned (.bool false)) (W3.putObj l (.loop (rc .done (some (.exit id)))))
  | .goto t, _, W3 => KeepsFrom B W2 W3 ∧ R' (.returned (.bool false)) (W3.putObj l (.loop (rc .done (some (.goto t)))))
  | .panic _, _, _ => False
  | .outgrown, _, _ => False
theorem round_deep {m m' : Nat} {P : Program} {l : Nat} {f : FuncId} {tmps : Array Value} {assign body : Code} {w : World} {R : Ending → World → Prop}
    (h : RoundIn Fence.wide m P l f tmps assign body w R) : RoundIn Fence.wide m' P l f tmps assign body w R := ⟨trivial, fun c cs _ => h.2 c cs (fun d hd => by cases hd)⟩

/-- One round. -/
theorem yield_R {P : Program} {l B m : Nat} {fn : FuncId} {tmps : Array Value} {ps : Array Tmp} {assign body : Code} {D : Nat} {args : Array Value} {W : World} {R' : Ending → World → Prop} {K : Act → World → Prop}
    (hB : B ≤ l) (hl : W.heap[l]? = some (.loop (recOf fn tmps ps assign body D .ready none))) (hs : args.size = ps.size)
    (ha : assign.wpIn (Fence.wide.inRound l) m P (Exit.then (fun a' Wa => KeepsFrom B W Wa ∧ K a' Wa) (fun _ _ _ => False)) { tmps := (ps.zip args).foldl (fun t (p, v) => t.setIfInBounds p v) tmps, defers := [] } W)
    (hb : ∀ a' Wa, KeepsFrom B W Wa → K a' Wa → Wa.heap[l]? = some (.loop (recOf fn tmps ps assign body D .ready none)) →
      body.wpIn (Fence.wide.inRound l) m P (leftBy B l (recOf fn tmps ps assign body D) (Wa.putObj l (.loop (recOf fn tmps ps assign body D .busy none))) R') a' (Wa.putObj l (.loop (recOf fn tmps ps assign body D .busy none)))) :
    Yld P l args W R' := fun m' => by
  refine ⟨fn, _, assign, body, run_yield (r := recOf fn tmps ps assign body D .ready none) hl hs, round_deep (m := m) (roundIn_of_wpIn trivial (wpIn_mono ha ?_))⟩
  intro e a' Wa h
  cases e
  case normal =>
    obtain ⟨hk, hK⟩ := h
    have hla := hk.same _ _ hB hl rfl
    have hlt : l < Wa.heap.size := (Array.getElem?_eq_some_iff.1 hla).1
    refine ⟨_, run_beginRound hla rfl, wpIn_mono (hb a' Wa hk hK hla) ?_⟩
    have busy : ∀ W3, KeepsFrom B (Wa.putObj l (.loop (recOf fn tmps ps assign body D .busy none))) W3 → W3.heap[l]? = some (.loop (recOf fn tmps ps assign body D .busy none)) := fun W3 h3 => h3.same _ _ hB (World.putObj_heap_same hlt) rfl
    intro e3 a3 W3 h3
    cases e3 with
    | normal => exact ⟨_, _, run_endRound none (busy W3 h3.1), h3.2⟩
    | ret => exact ⟨_, _, run_endRound (some .ret) (busy W3 h3.1), h3.2⟩
    | exit id => exact ⟨_, _, run_endRound (some (.exit id)) (busy W3 h3.1), h3.2⟩
    | goto t => exact ⟨_, _, run_endRound (some (.goto t)) (busy W3 h3.1), h3.2⟩
    | panic ch => exact h3.elim
    | outgrown => exact h3.elim
  all_goals exact h

section
variable {α : Type} {P : Program} {n m : Nat} {g : Operand} {ps : Array Tmp} {assign body : Code} {Q : Exit → Act → World → Prop} {a : Act} {w : World}
/-- The loop's two blocks of book-keeping. -/
def BookR (l D : Nat) (r : Loop) (W : World) : Prop := W.heap[l]? = some (.loop r) ∧ W.heap[D]? = some (.deferred (some []))
theorem owns_one {β : Type} {T : List TypeId} {I : β → World → Prop} {B B' l : Nat} {o : Obj} (hI : OwnT T B I) (hB : B ≤ B') (hl : l < B') : OwnT T B' (fun s W => I s W ∧ W.heap[l]? = some o) := fun s X Y row hs hg hr =>
  ⟨(hI.up hB (fun _ h => h)) s X Y row hs.1 hg hr, (hg.block l (Array.getElem?_eq_some_iff.1 hs.2).1 (fun e => by have := (hr l e.symm).1; omega)).trans hs.2⟩
theorem owns_book {β : Type} {T : List TypeId} {I : β → World → Prop} {B B' l D : Nat} {r : Loop} (hI : OwnT T B I) (hB : B ≤ B') (hl : l < B') (hD : D < B') : OwnT T B' (fun s W => I s W ∧ BookR l D r W) := fun s X Y row hs hg hr =>
  ⟨(hI.up hB (fun _ h => h)) s X Y row hs.1 hg hr, (hg.block l (Array.getElem?_eq_some_iff.1 hs.2.1).1 (fun e => by have := (hr l e.symm).1; omega)).trans hs.2.1, (hg.block D (Array.getElem?_eq_some_iff.1 hs.2.2).1 (fun e => by have := (hr D e.symm).1; omega)).trans hs.2.2⟩

/-- A loop outside of rounds. -/
theorem range_R {gf : Nat} {lb : Array Value} (hg : a.eval g = .func (.func gf) #[] lb) (eg : ∀ args w, (callFunc gf args).run P w = .ok (.enter gf args) w)
    {encs : α → Array Value} {R : List α → α → World → Prop} {Kp : World → World → Prop} {S Sp : List α → Prop} {w0 : World} {T : List TypeId} (hseq : SeqR P T gf lb encs R Kp S Sp w0)
    (hKt : ∀ {A B C : World}, Kp A B → Kp B C → Kp A C) (hKb : ∀ (W : World) (l : Nat) (o o' : Obj), w.heap.size ≤ l → W.heap[l]? = some o → o.isCells = false → o.isWalk = false → Kp W (W.putObj l o')) (hb0 : Below w0.heap.size w0 w) (hps : ∀ x, (encs x).size = ps.size)
    (I : List α → World → Prop) (Ix : Code → List α → World → Prop) (hIt : OwnT T w.heap.size I) (hIxt : ∀ c, OwnT T w.heap.size (Ix c)) (h0 : I [] w) (Ax : List α → α → Act → World → Prop) (hAx : ∀ pre x a', OwnFrom w.heap.size (fun (_ : Unit) W => Ax pre x a' W))
    (hassign : ∀ (l : Nat) (pre : List α) (x : α) (W : World) (K : Act → World → Prop), I pre W → R pre x W → (∀ a' W', KeepsFrom w.heap.size W W' → Kp W W' → I pre W' → Ax pre x a' W' → K a' W') →
      assign.wpIn (Fence.wide.inRound l) m P (Exit.then K (fun _ _ _ => False)) { tmps := (ps.zip (encs x)).foldl (fun t (p, v) => t.setIfInBounds p v) a.tmps, defers := [] } W)
    (hbody : ∀ (l : Nat) (pre : List α) (x : α) (a' : Act) (W : World), w.heap.size ≤ l → (∃ r, W.heap[l]? = some (.loop r)) → I pre W → Ax pre x a' W → body.wpIn (Fence.wide.inRound l) m P (ownPostG w.heap.size Kp I Ix (pre ++ [x]) W) a' W)
    (hdone : ∀ (D : Nat) (xs : List α) (W : World), w.heap.size ≤ D → S xs → I xs W → W.heap[D]? = some (.deferred (some [])) → Q .normal { a with defers := { target := .collected D, args := #[] } :: a.defers } W)
    (hstop : ∀ (D : Nat) (c : Code) (pre : List α) (W : World), w.heap.size ≤ D → Sp pre → Ix c pre W → W.heap[D]? = some (.deferred (some [])) → c.wpIn Fence.wide n P Q { a with defers := { target := .collected D, args := #[] } :: a.defers } W) :
    (Code.rangeFunc g ps assign body).wpIn Fence.wide n P Q a w := by
  have hI := hIt.from
  have hIx := fun c => (hIxt c).from
  refine wpIn_rangeFunc (fun fn _ => ?_)
  obtain ⟨D, hD⟩ : ∃ D, D = w.heap.size := ⟨_, rfl⟩
  obtain ⟨l, hl⟩ : ∃ l, l = w.heap.size + 1 := ⟨_, rfl⟩
  obtain ⟨rc, hrc⟩ : ∃ rc, rc = recOf fn a.tmps ps assign body D := ⟨_, rfl⟩
  obtain ⟨V, hV⟩ : ∃ V, V = w.alloc (.deferred (some [])) := ⟨_, rfl⟩
  obtain ⟨W1, hW1⟩ : ∃ W1, W1 = V.alloc (.loop (rc .ready none)) := ⟨_, rfl⟩
  have sV : V.heap.size = l := by rw [hV, hl]; simp
  have sW : W1.heap.size = l + 1 := by rw [hW1]; simp [sV]
  have bV : Below w.heap.size w W1 := by rw [hW1, hV]; exact ((Below.refl _ w).alloc (Nat.le_refl _) _).alloc (by simp) _
  have l1 : W1.heap[l]? = some (.loop (rc .ready none)) := by rw [hW1, ← sV]; exact World.alloc_heap_new V _
  have d1 : W1.heap[D]? = some (.deferred (some [])) := by
    rw [hW1, Below.heap_alloc _ _ _ (by rw [sV]; omega), hV, hD]; exact World.alloc_heap_new w _
  have i1 : I [] W1 := by rw [hW1, hV]; exact hI.alloc _ (hI.alloc _ h0)
  have ent : (Instr.enterLoop fn a.tmps ps assign body none).run P w = .ok (l, [{ target := .collected D, args := #[] }]) W1 := by
    rw [hW1, hV, hrc, hl, hD]; exact run_enterLoop_outer _ _ _ _ _
  refine ⟨l, [{ target := .collected D, args := #[] }], W1, { target := .fn (.func gf) lb, args := #[.func (.yield l) #[] #[]] }, W1, gf, #[.func (.yield l) #[] #[]] ++ lb, W1, ent, ?_, ?_, ?_, (fun h => by cases h), ?_⟩
  · simp only [resolve, hg]; simp [go_sem]
  · intro _ _; trivial
  · simp [invoke, go_sem, eg]
  · -- the rounds: what the body is told, and what it leaves
    have rnd : ∀ pre x W, (I pre W ∧ BookR l D (rc .ready none) W) → R pre x W → Yld P l (encs x) W fun e W' => KeepsFrom W1.heap.size W W' ∧
        ((e = .returned (.bool true) ∧ (I (pre ++ [x]) W' ∧ BookR l D (rc .ready none) W') ∧ Kp W W') ∨ (e = .returned (.bool false) ∧ ∃ c, Ix c (pre ++ [x]) W' ∧ BookR l D (rc .done (some c)) W')) := by
      rintro pre x W ⟨hi, hbl, hbd⟩ hr
      rw [hrc] at hbl
      refine yield_R (m := m) (B := w.heap.size) (K := fun a' Wa => Kp W Wa ∧ I pre Wa ∧ Ax pre x a' Wa) (by omega) hbl (hps x) (hassign l pre x W _ hi hr (fun a' W' h1 h2 h3 h4 => ⟨h1, h2, h3, h4⟩)) ?_
      rintro a' Wa hk ⟨kp, hia, hax⟩ hla
      have hda := hk.same _ _ (by omega) hbd rfl
      have hlt : l < Wa.heap.size := (Array.getElem?_eq_some_iff.1 hla).1
      obtain ⟨W2, hW2⟩ : ∃ W2, W2 = Wa.putObj l (.loop (recOf fn a.tmps ps assign body D .busy none)) := ⟨_, rfl⟩
      have l2 : W2.heap[l]? = some (.loop (recOf fn a.tmps ps assign body D .busy none)) := by rw [hW2]; exact World.putObj_heap_same hlt
      have d2 : W2.heap[D]? = some (.deferred (some [])) := by rw [hW2]; exact (World.putObj_heap_other (by omega)).trans hda
      have k2 : Kp Wa W2 := by rw [hW2]; exact hKb _ _ _ _ (by omega) hla rfl rfl
      have i2 : I pre W2 := by rw [hW2]; exact hI.putObj _ hia (by omega) hla rfl
      have a2 : Ax pre x a' W2 := by rw [hW2]; exact (hAx pre x a').putObj (s := ()) _ hax (by omega) hla rfl
      rw [← hW2]
      refine wpIn_mono (hbody l pre x a' W2 (by omega) ⟨_, l2⟩ i2 a2) ?_
      have fin : ∀ (st : LoopState) (pe : Option Code) W3, KeepsFrom w.heap.size W2 W3 → W3.heap[l]? = some (.loop (recOf fn a.tmps ps assign body D .busy none)) ∧ BookR l D (rc st pe) (W3.putObj l (.loop (recOf fn a.tmps ps assign body D st pe))) := fun st pe W3 h3 => by
        have l3 := h3.same _ _ (by omega) l2 rfl
        exact ⟨l3, by rw [hrc]; exact World.putObj_heap_same (Array.getElem?_eq_some_iff.1 l3).1, (World.putObj_heap_other (by omega)).trans (h3.same _ _ (by omega) d2 rfl)⟩
      have kf : ∀ (o : Obj) W3, KeepsFrom w.heap.size W2 W3 → KeepsFrom W1.heap.size W (W3.putObj l o) := fun o W3 h3 =>
        ⟨by have := hk.size; have := h3.size; rw [hW2] at this; simp at this ⊢; omega, fun k ob h1 h2 h4 => by
          have e1 := hk.same k ob (by omega) h2 h4
          have e2 : W2.heap[k]? = some ob := by rw [hW2]; exact (World.putObj_heap_other (by omega)).trans e1
          exact (World.putObj_heap_other (by omega)).trans (h3.same k ob (by omega) e2 h4)⟩
      intro e a3 W3 h3
      cases e with
      | normal =>
        obtain ⟨h3, kp3, i3⟩ := h3
        obtain ⟨l3, bk⟩ := fin .ready none W3 h3
        exact ⟨h3, kf _ _ h3, Or.inl ⟨rfl, ⟨hI.putObj _ i3 (by omega) l3 rfl, bk⟩, hKt kp (hKt k2 (hKt kp3 (hKb _ _ _ _ (by omega) l3 rfl rfl)))⟩⟩
      | ret =>
        obtain ⟨h3, i3⟩ := h3
        obtain ⟨l3, bk⟩ := fin .done (some .ret) W3 h3
        exact ⟨h3, kf _ _ h3, Or.inr ⟨rfl, .ret, (hIx _).putObj _ i3 (by omega) l3 rfl, bk⟩⟩
      | exit id =>
        obtain ⟨h3, i3⟩ := h3
        obtain ⟨l3, bk⟩ := fin .done (some (.exit id)) W3 h3
        exact ⟨h3, kf _ _ h3, Or.inr ⟨rfl, .exit id, (hIx _).putObj _ i3 (by omega) l3 rfl, bk⟩⟩
      | goto t =>
        obtain ⟨h3, i3⟩ := h3
        obtain ⟨l3, bk⟩ := fin .done (some (.goto t)) W3 h3
        exact ⟨h3, kf _ _ h3, Or.inr ⟨rfl, .goto t, (hIx _).putObj _ i3 (by omega) l3 rfl, bk⟩⟩
      | panic ch => exact h3.elim
      | outgrown => exact h3.elim
    refine (callsIn_wide.2 (hseq l (fun pre W => I pre W ∧ BookR l D (rc .ready none) W) (fun pre W => ∃ c, Ix c pre W ∧ BookR l D (rc .done (some c)) W) W1 (hb0.trans (bV.mono hb0.size)) (owns_book hIt (by omega) (by omega) (by omega)) (OwnT.ex fun c => owns_book (hIxt c) (by omega) (by omega) (by omega)) rnd ⟨i1, l1, d1⟩)).mono ?_
    rintro e W2 ⟨⟨v, rfl⟩, ⟨xs, hS, hi, hbl, hbd⟩ | ⟨pre, hSp, c, hi, hbl, hbd⟩⟩
    · rw [hrc] at hbl
      exact ⟨none, _, run_endLoop hbl (by simp [recOf]), hdone D xs _ (by omega) hS (hI.putObj _ hi (by omega) hbl rfl) ((World.putObj_heap_other (by omega)).trans hbd)⟩
    · rw [hrc] at hbl
      exact ⟨some c, _, run_endLoop hbl (by simp [recOf]), hstop D c pre _ (by omega) hSp ((hIx c).putObj _ hi (by omega) hbl rfl) ((World.putObj_heap_other (by omega)).trans hbd)⟩
/-- A loop within a round. -/
theorem range_N {l₀ : Nat} {r₀ : Loop} (hl₀ : w.heap[l₀]? = some (.loop r₀)) {gf : Nat} {lb : Array Value} (hg : a.eval g = .func (.func gf) #[] lb) (eg : ∀ args w, (callFunc gf args).run P w = .ok (.enter gf args) w)
    {encs : α → Array Value} {R : List α → α → World → Prop} {Kp : World → World → Prop} {S Sp : List α → Prop} {w0 : World} {T : List TypeId} (hseq : SeqR P T gf lb encs R Kp S Sp w0)
    (hKt : ∀ {A B C : World}, Kp A B → Kp B C → Kp A C) (hKb : ∀ (W : World) (l : Nat) (o o' : Obj), w.heap.size ≤ l → W.heap[l]? = some o → o.isCells = false → o.isWalk = false → Kp W (W.putObj l o')) (hb0 : Below w0.heap.size w0 w) (hps : ∀ x, (encs x).size = ps.size)
    (I : List α → World → Prop) (Ix : Code → List α → World → Prop) (hIt : OwnT T w.heap.size I) (hIxt : ∀ c, OwnT T w.heap.size (Ix c)) (h0 : I [] w) (Ax : List α → α → Act → World → Prop) (hAx : ∀ pre x a', OwnFrom w.heap.size (fun (_ : Unit) W => Ax pre x a' W))
    (hassign : ∀ (l : Nat) (pre : List α) (x : α) (W : World) (K : Act → World → Prop), I pre W → R pre x W → (∀ a' W', KeepsFrom w.heap.size W W' → Kp W W' → I pre W' → Ax pre x a' W' → K a' W') →
      assign.wpIn (Fence.wide.inRound l) m P (Exit.then K (fun _ _ _ => False)) { tmps := (ps.zip (encs x)).foldl (fun t (p, v) => t.setIfInBounds p v) a.tmps, defers := [] } W)
    (hbody : ∀ (l : Nat) (pre : List α) (x : α) (a' : Act) (W : World), w.heap.size ≤ l → (∃ r, W.heap[l]? = some (.loop r)) → I pre W → Ax pre x a' W → body.wpIn (Fence.wide.inRound l) m P (ownPostG w.heap.size Kp I Ix (pre ++ [x]) W) a' W)
    (hdone : ∀ (xs : List α) (W : World), S xs → I xs W → Q .normal a W)
    (hstop : ∀ (c : Code) (pre : List α) (W : World), Sp pre → Ix c pre W → c.wpIn (Fence.wide.inRound l₀) n P Q a W) :
    (Code.rangeFunc g ps assign body).wpIn (Fence.wide.inRound l₀) n P Q a w := by
  have hI := hIt.from
  have hIx := fun c => (hIxt c).from
  refine wpIn_rangeFunc (fun fn _ => ?_)
  obtain ⟨l, hl⟩ : ∃ l, l = w.heap.size := ⟨_, rfl⟩
  obtain ⟨rc, hrc⟩ : ∃ rc, rc = recOf fn a.tmps ps assign body r₀.defers := ⟨_, rfl⟩
  obtain ⟨W1, hW1⟩ : ∃ W1, W1 = w.alloc (.loop (rc .ready none)) := ⟨_, rfl⟩
  have sW : W1.heap.size = l + 1 := by rw [hW1, hl]; simp
  have bV : Below w.heap.size w W1 := by rw [hW1]; exact (Below.refl _ w).alloc (Nat.le_refl _) _
  have l1 : W1.heap[l]? = some (.loop (rc .ready none)) := by rw [hW1, hl]; exact World.alloc_heap_new w _
  have i1 : I [] W1 := by rw [hW1]; exact hI.alloc _ h0
  have ent : (Instr.enterLoop fn a.tmps ps assign body (some l₀)).run P w = .ok (l, []) W1 := by
    rw [hW1, hrc, hl]; exact run_enterLoop_inner hl₀ _ _ _ _ _
  refine ⟨l, [], W1, { target := .fn (.func gf) lb, args := #[.func (.yield l) #[] #[]] }, W1, gf, #[.func (.yield l) #[] #[]] ++ lb, W1, ent, ?_, ?_, ?_, (fun h => by cases h), ?_⟩
  · simp only [resolve, hg]; simp [go_sem]
  · intro _ _; trivial
  · simp [invoke, go_sem, eg]
  · have rnd : ∀ pre x W, (I pre W ∧ W.heap[l]? = some (.loop (rc .ready none))) → R pre x W → Yld P l (encs x) W fun e W' => KeepsFrom W1.heap.size W W' ∧
        ((e = .returned (.bool true) ∧ (I (pre ++ [x]) W' ∧ W'.heap[l]? = some (.loop (rc .ready none))) ∧ Kp W W') ∨ (e = .returned (.bool false) ∧ ∃ c, Ix c (pre ++ [x]) W' ∧ W'.heap[l]? = some (.loop (rc .done (some c))))) := by
      rintro pre x W ⟨hi, hbl⟩ hr
      rw [hrc] at hbl
      refine yield_R (m := m) (B := w.heap.size) (K := fun a' Wa => Kp W Wa ∧ I pre Wa ∧ Ax pre x a' Wa) (by omega) hbl (hps x) (hassign l pre x W _ hi hr (fun a' W' h1 h2 h3 h4 => ⟨h1, h2, h3, h4⟩)) ?_
      rintro a' Wa hk ⟨kp, hia, hax⟩ hla
      have hlt : l < Wa.heap.size := (Array.getElem?_eq_some_iff.1 hla).1
      obtain ⟨W2, hW2⟩ : ∃ W2, W2 = Wa.putObj l (.loop (recOf fn a.tmps ps assign body r₀.defers .busy none)) := ⟨_, rfl⟩
      have l2 : W2.heap[l]? = some (.loop (recOf fn a.tmps ps assign body r₀.defers .busy none)) := by rw [hW2]; exact World.putObj_heap_same hlt
      have k2 : Kp Wa W2 := by rw [hW2]; exact hKb _ _ _ _ (by omega) hla rfl rfl
      have i2 : I pre W2 := by rw [hW2]; exact hI.putObj _ hia (by omega) hla rfl
      have a2 : Ax pre x a' W2 := by rw [hW2]; exact (hAx pre x a').putObj (s := ()) _ hax (by omega) hla rfl
      rw [← hW2]
      refine wpIn_mono (hbody l pre x a' W2 (by omega) ⟨_, l2⟩ i2 a2) ?_
      have fin : ∀ (st : LoopState) (pe : Option Code) W3, KeepsFrom w.heap.size W2 W3 → W3.heap[l]? = some (.loop (recOf fn a.tmps ps assign body r₀.defers .busy none)) ∧ (W3.putObj l (.loop (recOf fn a.tmps ps assign body r₀.defers st pe))).heap[l]? = some (.loop (rc st pe)) := fun st pe W3 h3 => by
        have l3 := h3.same _ _ (by omega) l2 rfl
        exact ⟨l3, by rw [hrc]; exact World.putObj_heap_same (Array.getElem?_eq_some_iff.1 l3).1⟩
      have kf : ∀ (o : Obj) W3, KeepsFrom w.heap.size W2 W3 → KeepsFrom W1.heap.size W (W3.putObj l o) := fun o W3 h3 =>
        ⟨by have := hk.size; have := h3.size; rw [hW2] at this; simp at this ⊢; omega, fun k ob h1 h2 h4 => by
          have e1 := hk.same k ob (by omega) h2 h4
          have e2 : W2.heap[k]? = some ob := by rw [hW2]; exact (World.putObj_heap_other (by omega)).trans e1
          exact (World.putObj_heap_other (by omega)).trans (h3.same k ob (by omega) e2 h4)⟩
      intro e a3 W3 h3
      cases e with
      | normal =>
        obtain ⟨h3, kp3, i3⟩ := h3
        obtain ⟨l3, bk⟩ := fin .ready none W3 h3
        exact ⟨h3, kf _ _ h3, Or.inl ⟨rfl, ⟨hI.putObj _ i3 (by omega) l3 rfl, bk⟩, hKt kp (hKt k2 (hKt kp3 (hKb _ _ _ _ (by omega) l3 rfl rfl)))⟩⟩
      | ret =>
        obtain ⟨h3, i3⟩ := h3
        obtain ⟨l3, bk⟩ := fin .done (some .ret) W3 h3
        exact ⟨h3, kf _ _ h3, Or.inr ⟨rfl, .ret, (hIx _).putObj _ i3 (by omega) l3 rfl, bk⟩⟩
      | exit id =>
        obtain ⟨h3, i3⟩ := h3
        obtain ⟨l3, bk⟩ := fin .done (some (.exit id)) W3 h3
        exact ⟨h3, kf _ _ h3, Or.inr ⟨rfl, .exit id, (hIx _).putObj _ i3 (by omega) l3 rfl, bk⟩⟩
      | goto t =>
        obtain ⟨h3, i3⟩ := h3
        obtain ⟨l3, bk⟩ := fin .done (some (.goto t)) W3 h3
        exact ⟨h3, kf _ _ h3, Or.inr ⟨rfl, .goto t, (hIx _).putObj _ i3 (by omega) l3 rfl, bk⟩⟩
      | panic ch => exact h3.elim
      | outgrown => exact h3.elim
    refine (CallsIn.inRound l₀ (callsIn_wide.2 (hseq l (fun pre W => I pre W ∧ W.heap[l]? = some (.loop (rc .ready none))) (fun pre W => ∃ c, Ix c pre W ∧ W.heap[l]? = some (.loop (rc .done (some c)))) W1 (hb0.trans (bV.mono hb0.size)) (owns_one hIt (by omega) (by omega)) (OwnT.ex fun c => owns_one (hIxt c) (by omega) (by omega)) rnd ⟨i1, l1⟩))).mono ?_
    rintro e W2 ⟨⟨v, rfl⟩, ⟨xs, hS, hi, hbl⟩ | ⟨pre, hSp, c, hi, hbl⟩⟩
    · rw [hrc] at hbl
      exact ⟨none, _, run_endLoop hbl (by simp [recOf]), hdone xs _ hS (hI.putObj _ hi (by omega) hbl rfl)⟩
    · rw [hrc] at hbl
      exact ⟨some c, _, run_endLoop hbl (by simp [recOf]), hstop c pre _ hSp ((hIx c).putObj _ hi (by omega) hbl rfl)⟩
end
end Go.Proofs.Ytjjkddahfmkhoaa
