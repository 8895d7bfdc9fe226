/-
  A range over a function, told by which blocks belong to whom: the iterator has blocks of its own (and may write some of them between its yields), the loop has its own, and an element may bring blocks along.
-/
import Derived.Test.YtjjkddahfmkhoaaRgR
import Derived.Test.YtjjkddahfmkhoaaLa
namespace Go.Proofs.Ytjjkddahfmkhoaa
set_option linter.unusedVariables false
set_option linter.unusedSimpArgs false
open Go.RowKit

/-- What stands as long as the blocks A stay. -/
def Stab {β : Type} (J : β → (Nat → Prop) → World → Prop) : Prop := ∀ s A W W', J s A W → Keep (fun k => ¬ A k) W W' → J s A W'
/-- The blocks A are there. -/
def Low (A : Nat → Prop) (W : World) : Prop := ∀ k, A k → k < W.heap.size
/-- What a round leaves: it writes what is the loop's or came with the element; what is the loop's behind it was one or the other, or is new. -/
structure Left (A X : Nat → Prop) (W W' : World) (A' : Nat → Prop) : Prop where
  keep : Keep (fun k => A k ∨ X k) W W'
  low : Low A' W'
  sub : ∀ k, A' k → A k ∨ X k ∨ W.heap.size ≤ k
/-- What an iterator promises. -/
structure SeqF {α : Type} (P : Program) (g : Nat) (lb : Array Value) (encs : α → Array Value) (fx : α → Nat → Prop) (R : List α → α → World → Prop) (S Sp : List α → World → Prop) (It Mt : Nat → Prop) (w : World) : Prop where
  low : Low It w
  mt : ∀ k, Mt k → It k
  rstab : ∀ pre x W W' F, R pre x W → Keep F W W' → (∀ k, F k → ¬ fx x k ∧ ¬ It k) → R pre x W'
  sstab : ∀ xs W W' F, S xs W → Keep F W W' → (∀ k, F k → ¬ It k) → S xs W'
  pstab : ∀ xs W W' F, Sp xs W → Keep F W W' → (∀ k, F k → ¬ It k) → Sp xs W'
  run : ∀ (l : Nat) (J Jx : List α → (Nat → Prop) → World → Prop) (A : Nat → Prop) (W : World),
    Keep (fun k => ¬ It k) w W → Stab J → Stab Jx → (∀ k, It k → ¬ A k) → Low A W →
    (∀ pre x A W1, J pre A W1 → Low A W1 → W.heap.size ≤ W1.heap.size → R pre x W1 → Low (fx x) W1 → (∀ k, fx x k → ¬ A k ∧ W.heap.size ≤ k) → Yld P l (encs x) W1 fun e W' => ∃ A', Left A (fx x) W1 W' A' ∧
      ((e = .returned (.bool true) ∧ J (pre ++ [x]) A' W') ∨ (e = .returned (.bool false) ∧ Jx (pre ++ [x]) A' W'))) →
    J [] A W →
    Calls P g (#[.func (.yield l) #[] #[]] ++ lb) W fun e W' => (∃ v, e = .returned v) ∧ Keep (fun k => A k ∨ Mt k) W W' ∧ ∃ A', Low A' W' ∧ (∀ k, A' k → ¬ It k ∧ (A k ∨ W.heap.size ≤ k)) ∧
      ((∃ xs, S xs W' ∧ J xs A' W') ∨ (∃ pre, Sp pre W' ∧ Jx pre A' W'))
theorem Keep.more {F G : Nat → Prop} {w w' : World} (h : Keep F w w') (k : ∀ q, F q → G q) : Keep G w w' := ⟨h.os, h.tape, h.output, h.size, fun q h1 h2 => h.block q h1 (fun e => h2 (k q e))⟩
theorem Keep.then {F G : Nat → Prop} {w w' w'' : World} (h : Keep F w w') (k : Keep G w' w'') : Keep (fun q => F q ∨ G q) w w'' :=
  ⟨k.os.trans h.os, k.tape.trans h.tape, k.output.trans h.output, Nat.le_trans h.size k.size, fun q h1 h2 => (k.block q (by have := h.size; omega) (fun e => h2 (Or.inr e))).trans (h.block q h1 (fun e => h2 (Or.inl e)))⟩
theorem Keep.putObj (w : World) (l : Nat) (o : Obj) : Keep (fun k => k = l) w (w.putObj l o) := ⟨rfl, rfl, rfl, by simp, fun k _ h => World.putObj_heap_other (fun e => h e)⟩
theorem Keep.alloc (w : World) (o : Obj) : Keep (fun _ => False) w (w.alloc o) := Keep.of_below ((Below.refl _ _).alloc (Nat.le_refl _) _)
theorem Stab.at {β : Type} {J : β → (Nat → Prop) → World → Prop} (h : Stab J) {s : β} {A F : Nat → Prop} {W W' : World} (j : J s A W) (k : Keep F W W') (hF : ∀ q, F q → ¬ A q) : J s A W' := h s A W W' j (k.more hF)
/-- How a body may be left. -/
def postF {α : Type} (I : List α → (Nat → Prop) → World → Prop) (Ix : Code → List α → (Nat → Prop) → World → Prop) (pre : List α) (A X : Nat → Prop) (W2 : World) : Exit → Act → World → Prop
  | .normal, _, W3 => ∃ A', Left A X W2 W3 A' ∧ I pre A' W3
  | .ret, _, W3 => ∃ A', Left A X W2 W3 A' ∧ Ix .ret pre A' W3
  | .exit id, _, W3 => ∃ A', Left A X W2 W3 A' ∧ Ix (.exit id) pre A' W3
  | .goto t, _, W3 => ∃ A', Left A X W2 W3 A' ∧ Ix (.goto t) pre A' W3
  | .panic _, _, _ => False
  | .outgrown, _, _ => False
/-- How a round's body may be left: its end, and each jump. -/
def leftF (l : Nat) (rc : LoopState → Option Code → Loop) (W2 : World) (R' : Ending → World → Prop) : Exit → Act → World → Prop
  | .normal, _, W3 => W3.heap[l]? = W2.heap[l]? ∧ R' (.returned (.bool true)) (W3.putObj l (.loop (rc .ready none)))
  | .ret, _, W3 => W3.heap[l]? = W2.heap[l]? ∧ R' (.returned (.bool false)) (W3.putObj l (.loop (rc .done (some .ret))))
  | .exit id, _, W3 => W3.heap[l]? = W2.heap[l]? ∧ R' (.returned (.bool false)) (W3.putObj l (.loop (rc .done (some (.exit id)))))
  | .goto t, _, W3 => W3.heap[l]? = W2.heap[l]? ∧ R' (.returned (.bool false)) (W3.putObj l (.loop (rc .done (some (.goto t)))))
  | .panic _, _, _ => False
  | .outgrown, _, _ => False
/-- One round. -/
theorem yield_F {P : Program} {l m : Nat} {fn : FuncId} {tmps : Array Value} {ps : Array Tmp} {assign body : Code} {D : Nat} {args : Array Value} {W : World} {R' : Ending → World → Prop} {K : Act → Prop}
    (hl : W.heap[l]? = some (.loop (recOf fn tmps ps assign body D .ready none))) (hs : args.size = ps.size)
    (ha : ∀ K' : Act → World → Prop, (∀ a', K a' → K' a' W) → assign.wpIn (Fence.wide.inRound l) m P (Exit.then K' (fun _ _ _ => False)) { tmps := (ps.zip args).foldl (fun t (p, v) => t.setIfInBounds p v) tmps, defers := [] } W)
    (hb : ∀ a', K a' → body.wpIn (Fence.wide.inRound l) m P (leftF l (recOf fn tmps ps assign body D) (W.putObj l (.loop (recOf fn tmps ps assign body D .busy none))) R') a' (W.putObj l (.loop (recOf fn tmps ps assign body D .busy none)))) :
    Yld P l args W R' := fun m' => by
  refine ⟨fn, _, assign, body, run_yield (r := recOf fn tmps ps assign body D .ready none) hl hs, round_deep (m := m) (roundIn_of_wpIn trivial (ha _ ?_))⟩
  intro a' hK
  have hlt : l < W.heap.size := (Array.getElem?_eq_some_iff.1 hl).1
  refine ⟨_, run_beginRound hl rfl, wpIn_mono (hb a' hK) ?_⟩
  have busy : ∀ W3 : World, W3.heap[l]? = (W.putObj l (.loop (recOf fn tmps ps assign body D .busy none))).heap[l]? → W3.heap[l]? = some (.loop (recOf fn tmps ps assign body D .busy none)) := fun W3 h3 => h3.trans (World.putObj_heap_same hlt)
  intro e3 a3 W3 h3
  cases e3 with
  | normal => exact ⟨_, _, run_endRound none (busy W3 h3.1), h3.2⟩
  | ret => exact ⟨_, _, run_endRound (some .ret) (busy W3 h3.1), h3.2⟩
  | exit id => exact ⟨_, _, run_endRound (some (.exit id)) (busy W3 h3.1), h3.2⟩
  | goto t => exact ⟨_, _, run_endRound (some (.goto t)) (busy W3 h3.1), h3.2⟩
  | panic ch => exact h3.elim
  | outgrown => exact h3.elim

section
variable {α : Type} {P : Program} {n m : Nat} {g : Operand} {ps : Array Tmp} {assign body : Code} {Q : Exit → Act → World → Prop} {a : Act} {w : World}
/-- A loop's state with its two blocks of book-keeping. -/
def Bk (l D : Nat) (r : Loop) (I : List α → (Nat → Prop) → World → Prop) : List α → (Nat → Prop) → World → Prop := fun pre A2 W =>
  ∃ A, (I pre A W ∧ Low A W) ∧ (∀ k, A2 k ↔ A k ∨ k = l ∨ k = D) ∧ (¬ A l ∧ ¬ A D) ∧ BookR l D r W
theorem Bk.stab {l D : Nat} {r : Loop} {I : List α → (Nat → Prop) → World → Prop} (h : Stab I) : Stab (Bk l D r I) := fun s A2 W W' hs k => by
  obtain ⟨A, ⟨i, lo⟩, e, ne, b⟩ := hs
  have e1 : ∀ q, q < W.heap.size → A2 q → W'.heap[q]? = W.heap[q]? := fun q h1 h2 => k.block q h1 (fun h => h h2)
  refine ⟨A, ⟨h.at i k (fun q hq hA => hq ((e q).2 (Or.inl hA))), fun q hq => Nat.lt_of_lt_of_le (lo q hq) k.size⟩, e, ne, ?_⟩
  exact ⟨(e1 l (Array.getElem?_eq_some_iff.1 b.1).1 ((e l).2 (Or.inr (Or.inl rfl)))).trans b.1, (e1 D (Array.getElem?_eq_some_iff.1 b.2).1 ((e D).2 (Or.inr (Or.inr rfl)))).trans b.2⟩
/-- A loop outside of rounds. -/
theorem range_F {gf : Nat} {lb : Array Value} (hg : a.eval g = .func (.func gf) #[] lb) (eg : ∀ args w, (callFunc gf args).run P w = .ok (.enter gf args) w)
    {encs : α → Array Value} {fx : α → Nat → Prop} {R : List α → α → World → Prop} {S Sp : List α → World → Prop} {It Mt : Nat → Prop} {w0 : World} (hseq : SeqF P gf lb encs fx R S Sp It Mt w0) (hw : Keep (fun k => ¬ It k) w0 w)
    (hps : ∀ x, (encs x).size = ps.size)
    (I : List α → (Nat → Prop) → World → Prop) (Ix : Code → List α → (Nat → Prop) → World → Prop) (A : Nat → Prop) (hI : Stab I) (hIx : ∀ c, Stab (Ix c)) (hdis : ∀ k, It k → ¬ A k) (hA : Low A w) (h0 : I [] A w) (Ax : List α → α → Act → Prop)
    (hassign : ∀ (l : Nat) (pre : List α) (x : α) (W : World) (K : Act → World → Prop), (∀ a', Ax pre x a' → K a' W) →
      assign.wpIn (Fence.wide.inRound l) m P (Exit.then K (fun _ _ _ => False)) { tmps := (ps.zip (encs x)).foldl (fun t (p, v) => t.setIfInBounds p v) a.tmps, defers := [] } W)
    (hbody : ∀ (l : Nat) (pre : List α) (x : α) (a' : Act) (A : Nat → Prop) (W : World), w.heap.size ≤ W.heap.size → I pre A W → Low A W → R pre x W → Low (fx x) W → (∀ k, fx x k → ¬ A k ∧ w.heap.size ≤ k) → Ax pre x a' →
      body.wpIn (Fence.wide.inRound l) m P (postF I Ix (pre ++ [x]) A (fx x) W) a' W)
    (hdone : ∀ (D : Nat) (xs : List α) (A' : Nat → Prop) (W : World), w.heap.size ≤ D → S xs W → I xs A' W → Low A' W → (∀ k, A' k → ¬ It k ∧ k ≠ D) → Keep (fun k => A k ∨ Mt k) w W → W.heap[D]? = some (.deferred (some [])) → Q .normal { a with defers := { target := .collected D, args := #[] } :: a.defers } W)
    (hstop : ∀ (D : Nat) (c : Code) (pre : List α) (A' : Nat → Prop) (W : World), w.heap.size ≤ D → Sp pre W → Ix c pre A' W → Low A' W → (∀ k, A' k → ¬ It k ∧ k ≠ D) → Keep (fun k => A k ∨ Mt k) w W → W.heap[D]? = some (.deferred (some [])) → c.wpIn Fence.wide n P Q { a with defers := { target := .collected D, args := #[] } :: a.defers } W) :
    (Code.rangeFunc g ps assign body).wpIn Fence.wide n P Q a w := by
  refine wpIn_rangeFunc (fun fn _ => ?_)
  obtain ⟨D, hD⟩ : ∃ D, D = w.heap.size := ⟨_, rfl⟩
  obtain ⟨l, hl⟩ : ∃ l, l = w.heap.size + 1 := ⟨_, rfl⟩
  obtain ⟨rc, hrc⟩ : ∃ rc, rc = recOf fn a.tmps ps assign body D := ⟨_, rfl⟩
  obtain ⟨V, hV⟩ : ∃ V, V = w.alloc (.deferred (some [])) := ⟨_, rfl⟩
  obtain ⟨W1, hW1⟩ : ∃ W1, W1 = V.alloc (.loop (rc .ready none)) := ⟨_, rfl⟩
  have sV : V.heap.size = l := by rw [hV, hl]; simp
  have sW : W1.heap.size = l + 1 := by rw [hW1]; simp [sV]
  have bV : Below w.heap.size w W1 := by rw [hW1, hV]; exact ((Below.refl _ w).alloc (Nat.le_refl _) _).alloc (by simp) _
  have kV : Keep (fun _ => False) w W1 := Keep.of_below bV
  have l1 : W1.heap[l]? = some (.loop (rc .ready none)) := by rw [hW1, ← sV]; exact World.alloc_heap_new V _
  have d1 : W1.heap[D]? = some (.deferred (some [])) := by
    rw [hW1, Below.heap_alloc _ _ _ (by rw [sV]; omega), hV, hD]; exact World.alloc_heap_new w _
  have i1 : I [] A W1 := hI.at h0 kV (fun _ h => h.elim)
  have nl : ∀ k, A k → k < w.heap.size := hA
  have nit : ∀ k, It k → k < w.heap.size := fun k hk => Nat.lt_of_lt_of_le (hseq.low k hk) hw.size
  have ent : (Instr.enterLoop fn a.tmps ps assign body none).run P w = .ok (l, [{ target := .collected D, args := #[] }]) W1 := by
    rw [hW1, hV, hrc, hl, hD]; exact run_enterLoop_outer _ _ _ _ _
  refine ⟨l, [{ target := .collected D, args := #[] }], W1, { target := .fn (.func gf) lb, args := #[.func (.yield l) #[] #[]] }, W1, gf, #[.func (.yield l) #[] #[]] ++ lb, W1, ent, ?_, ?_, ?_, (fun h => by cases h), ?_⟩
  · simp only [resolve, hg]; simp [go_sem]
  · intro _ _; trivial
  · simp [invoke, go_sem, eg]
  · have rnd : ∀ pre x A2 W, Bk l D (rc .ready none) I pre A2 W → Low A2 W → W1.heap.size ≤ W.heap.size → R pre x W → Low (fx x) W → (∀ k, fx x k → ¬ A2 k ∧ W1.heap.size ≤ k) → Yld P l (encs x) W fun e W' => ∃ A', Left A2 (fx x) W W' A' ∧
        ((e = .returned (.bool true) ∧ Bk l D (rc .ready none) I (pre ++ [x]) A' W') ∨ (e = .returned (.bool false) ∧ ∃ c, Bk l D (rc .done (some c)) (Ix c) (pre ++ [x]) A' W')) := by
      rintro pre x A2 W ⟨A, ⟨hi, hlo⟩, hA2, ⟨hAl, hAD⟩, hbl, hbd⟩ hlo2 hsz hr hfl hfx
      have fxl : ¬ fx x l := fun h => (hfx l h).1 ((hA2 l).2 (Or.inr (Or.inl rfl)))
      have fxD : ¬ fx x D := fun h => (hfx D h).1 ((hA2 D).2 (Or.inr (Or.inr rfl)))
      have hll : l < W.heap.size := (Array.getElem?_eq_some_iff.1 hbl).1
      rw [hrc] at hbl
      refine yield_F (m := m) (K := Ax pre x) hbl (hps x) (fun K' hK' => hassign l pre x W K' hK') ?_
      intro a' hax
      obtain ⟨W2, hW2⟩ : ∃ W2, W2 = W.putObj l (.loop (recOf fn a.tmps ps assign body D .busy none)) := ⟨_, rfl⟩
      have k2 : Keep (fun k => k = l) W W2 := by rw [hW2]; exact Keep.putObj _ _ _
      have s2 : W2.heap.size = W.heap.size := by rw [hW2]; simp
      have i2 : I pre A W2 := hI.at hi k2 (fun q e h => by subst e; exact hAl h)
      have r2 : R pre x W2 := hseq.rstab _ _ _ _ _ hr k2 (fun q e => by subst e; exact ⟨fxl, fun h => by have := nit _ h; omega⟩)
      rw [← hW2]
      refine wpIn_mono (hbody l pre x a' A W2 (by omega) i2 (fun q hq => by rw [s2]; exact hlo q hq) r2 (fun q hq => by rw [s2]; exact hfl q hq) (fun q hq => ⟨fun h => (hfx q hq).1 ((hA2 q).2 (Or.inl h)), by have := (hfx q hq).2; omega⟩) hax) ?_
      have keepl : ∀ A' W3, Left A (fx x) W2 W3 A' → W3.heap[l]? = W2.heap[l]? := fun A' W3 h => h.keep.block l (by omega) (fun e => e.elim hAl fxl)
      have fin : ∀ (J : List α → (Nat → Prop) → World → Prop) (st : LoopState) (pe : Option Code) A' W3, Stab J → Left A (fx x) W2 W3 A' → J (pre ++ [x]) A' W3 →
          ∃ A'', Left A2 (fx x) W (W3.putObj l (.loop (recOf fn a.tmps ps assign body D st pe))) A'' ∧ Bk l D (rc st pe) J (pre ++ [x]) A'' (W3.putObj l (.loop (recOf fn a.tmps ps assign body D st pe))) := fun J st pe A' W3 hJ h j => by
        have l3 : l < W3.heap.size := Nat.lt_of_lt_of_le (by omega) h.keep.size
        have nA' : ∀ q, q < W.heap.size → ¬ A q → ¬ fx x q → ¬ A' q := fun q h1 h2 h3 h4 => by rcases h.sub q h4 with e | e | e; exact h2 e; exact h3 e; omega
        have nl' := nA' l hll hAl fxl
        have nD' := nA' D (Array.getElem?_eq_some_iff.1 hbd).1 hAD fxD
        refine ⟨fun k => A' k ∨ k = l ∨ k = D, ⟨?_, ?_, ?_⟩, A', ⟨hJ.at j (Keep.putObj _ _ _) (fun q e hq => by subst e; exact nl' hq), fun q hq => by simpa using h.low q hq⟩, fun k => Iff.rfl, ⟨nl', nD'⟩, ?_, ?_⟩
        · refine ((k2.then h.keep).then (Keep.putObj _ _ _)).more (fun q hq => ?_)
          rcases hq with (rfl | e | e) | rfl
          · exact Or.inl ((hA2 _).2 (Or.inr (Or.inl rfl)))
          · exact Or.inl ((hA2 _).2 (Or.inl e))
          · exact Or.inr e
          · exact Or.inl ((hA2 _).2 (Or.inr (Or.inl rfl)))
        · intro q hq
          have : W3.heap.size = (W3.putObj l (.loop (recOf fn a.tmps ps assign body D st pe))).heap.size := by simp
          rw [← this]
          rcases hq with e | rfl | rfl
          · exact h.low q e
          · exact l3
          · exact Nat.lt_of_lt_of_le (Array.getElem?_eq_some_iff.1 hbd).1 (by have := h.keep.size; omega)
        · intro q hq
          rcases hq with e | rfl | rfl
          · rcases h.sub q e with e | e | e
            · exact Or.inl ((hA2 _).2 (Or.inl e))
            · exact Or.inr (Or.inl e)
            · exact Or.inr (Or.inr (by omega))
          · exact Or.inl ((hA2 _).2 (Or.inr (Or.inl rfl)))
          · exact Or.inl ((hA2 _).2 (Or.inr (Or.inr rfl)))
        · rw [hrc]; exact World.putObj_heap_same l3
        · rw [World.putObj_heap_other (by omega), h.keep.block D (by have := (Array.getElem?_eq_some_iff.1 hbd).1; omega) (fun e => e.elim hAD fxD), k2.block D (Array.getElem?_eq_some_iff.1 hbd).1 (by omega)]
          exact hbd
      intro e a3 W3 h3
      cases e with
      | normal =>
        obtain ⟨A', h3, i3⟩ := h3
        obtain ⟨A'', q1, q2⟩ := fin I .ready none A' W3 hI h3 i3
        exact ⟨keepl _ _ h3, A'', q1, Or.inl ⟨rfl, q2⟩⟩
      | ret =>
        obtain ⟨A', h3, i3⟩ := h3
        obtain ⟨A'', q1, q2⟩ := fin (Ix .ret) .done (some .ret) A' W3 (hIx _) h3 i3
        exact ⟨keepl _ _ h3, A'', q1, Or.inr ⟨rfl, _, q2⟩⟩
      | exit id =>
        obtain ⟨A', h3, i3⟩ := h3
        obtain ⟨A'', q1, q2⟩ := fin (Ix (.exit id)) .done (some (.exit id)) A' W3 (hIx _) h3 i3
        exact ⟨keepl _ _ h3, A'', q1, Or.inr ⟨rfl, _, q2⟩⟩
      | goto t =>
        obtain ⟨A', h3, i3⟩ := h3
        obtain ⟨A'', q1, q2⟩ := fin (Ix (.goto t)) .done (some (.goto t)) A' W3 (hIx _) h3 i3
        exact ⟨keepl _ _ h3, A'', q1, Or.inr ⟨rfl, _, q2⟩⟩
      | panic ch => exact h3.elim
      | outgrown => exact h3.elim
    have hlow1 : Low (fun k => A k ∨ k = l ∨ k = D) W1 := fun q hq => by rcases hq with e | rfl | rfl; (have := nl q e; omega); omega; omega
    refine (callsIn_wide.2 (hseq.run l (Bk l D (rc .ready none) I) (fun pre A2 W => ∃ c, Bk l D (rc .done (some c)) (Ix c) pre A2 W) (fun k => A k ∨ k = l ∨ k = D) W1 ((hw.then kV).more (fun q e => e.elim id False.elim)) (Bk.stab hI) (fun s A2 W W' hs k => by obtain ⟨c, hs⟩ := hs; exact ⟨c, Bk.stab (hIx c) s A2 W W' hs k⟩)
      (fun k hk e => by rcases e with e | rfl | rfl; exact hdis k hk e; (have := nit _ hk; omega); (have := nit _ hk; omega)) hlow1 rnd
      ⟨A, ⟨i1, fun q hq => by have := nl q hq; omega⟩, fun k => Iff.rfl, ⟨fun e => by have := nl _ e; omega, fun e => by have := nl _ e; omega⟩, l1, d1⟩)).mono ?_
    rintro e W2 ⟨⟨v, rfl⟩, kk, A2, hlo2, hit2, hend⟩
    have fin : ∀ (J : List α → (Nat → Prop) → World → Prop) (xs : List α) (st : LoopState) (pe : Option Code) (o' : Obj), Stab J → Bk l D (rc st pe) J xs A2 W2 → ∃ A', J xs A' (W2.putObj l o') ∧ Low A' (W2.putObj l o') ∧ (∀ k, A' k → ¬ It k ∧ k ≠ D) ∧ Keep (fun k => A k ∨ Mt k) w (W2.putObj l o') ∧ (W2.putObj l o').heap[D]? = some (.deferred (some [])) := fun J xs st pe o' hJ hb => by
      obtain ⟨A', ⟨j, lo⟩, hA2, ⟨nl', nD'⟩, b1, b2⟩ := hb
      refine ⟨A', hJ.at j (Keep.putObj _ _ _) (fun q e hq => by subst e; exact nl' hq), fun q hq => by simpa using lo q hq, fun k hk => ⟨(hit2 k ((hA2 k).2 (Or.inl hk))).1, fun e => nD' (by rw [← e]; exact hk)⟩, ?_, (World.putObj_heap_other (by omega)).trans b2⟩
      refine ⟨?_, ?_, ?_, ?_, ?_⟩
      · exact (kk.os.trans kV.os)
      · exact (kk.tape.trans kV.tape)
      · exact (kk.output.trans kV.output)
      · have := kk.size; simp; omega
      · intro q hq hn
        rw [World.putObj_heap_other (by omega), kk.block q (by omega) (fun e => by
          rcases e with (e | rfl | rfl) | e
          · exact hn (Or.inl e)
          · omega
          · omega
          · exact hn (Or.inr e)), kV.block q hq (fun h => h)]
    rcases hend with ⟨xs, hS, hB⟩ | ⟨pre, hSp, c, hB⟩
    · obtain ⟨A0, -, -, -, hbl, -⟩ := id hB
      rw [hrc] at hbl
      refine ⟨none, _, run_endLoop hbl (by simp [recOf]), ?_⟩
      obtain ⟨A', j, lo, nt, kp, hd⟩ := fin I xs .ready none _ hI hB
      exact hdone D xs A' _ (by omega) (hseq.sstab _ _ _ _ hS (Keep.putObj _ _ _) (fun q e h => by subst e; have := nit _ h; omega)) j lo nt kp hd
    · obtain ⟨A0, -, -, -, hbl, -⟩ := id hB
      rw [hrc] at hbl
      refine ⟨some c, _, run_endLoop hbl (by simp [recOf]), ?_⟩
      obtain ⟨A', j, lo, nt, kp, hd⟩ := fin (Ix c) pre .done (some c) _ (hIx c) hB
      exact hstop D c pre A' _ (by omega) (hseq.pstab _ _ _ _ hSp (Keep.putObj _ _ _) (fun q e h => by subst e; have := nit _ h; omega)) j lo nt kp hd
end
end Go.Proofs.Ytjjkddahfmkhoaa
