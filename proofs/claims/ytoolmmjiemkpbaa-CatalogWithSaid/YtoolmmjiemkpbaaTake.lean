/-
  In a region that draws its order, a call that only reads, and whose answer is known, may be taken first: no order of it is to be walked.
-/
import Derived.Deep.RegionHeld
import Derived.Test.YtoolmmjiemkpbaaChecked
namespace Go.Proofs.Ytoolmmjiemkpbaa
set_option linter.unusedVariables false
set_option linter.unusedSimpArgs false

section
variable {P : Program} {ops : Array Oper} {Q : Exit → Act → World → Prop} {md : Region.Mode} {S : World → Prop}
/-- What an operation may leave of a state. -/
def Left (o : Oper) (a a' : Act) : Prop := ∃ ds u, a' = { a with defers := ds }.put o.dst u
theorem wpOp_left {j : Nat} {o : Oper} (hj : ops[j]? = some o) {K : Act → World → Prop} {a : Act} {w : World} (h : wpOp P ops Q j K a w) : wpOp P ops Q j (fun a' w' => Left o a a' ∧ K a' w') a w := by
  unfold wpOp at *
  simp only [hj] at *
  by_cases hw : Region.wanted o (yielded ops a.tmps) = true
  · rw [if_pos hw] at *
    rcases h with h | h
    · refine Or.inl ?_
      unfold Oper.wp at *
      generalize (execOp a.eval o).run P w = r at *
      cases r with
      | ok n w1 =>
        cases n <;> simp only [Oper.upon] at h ⊢
        case value u => exact ⟨⟨_, u, rfl⟩, h⟩
        case skip => exact ⟨⟨_, _, rfl⟩, h⟩
        case defer d => exact ⟨⟨_, _, rfl⟩, h⟩
        case enter f args =>
          refine Calls.mono h fun e w2 he => ?_
          cases e with
          | returned u => exact ⟨⟨_, u, rfl⟩, he⟩
          | panicked c => exact he
          | outgrown => exact he
        case row row args => exact Rows.mono h fun u w2 he => ⟨⟨_, u, rfl⟩, he⟩
      | halt x w1 => cases x <;> first | exact h | (simp only [Oper.upon] at h ⊢; exact h)
    · exact Or.inr h
  · rw [if_neg hw] at *
    exact ⟨⟨_, _, rfl⟩, h⟩
/-- In state a, in every world that meets S, the operation is a call that answers v and leaves the world as it is. -/
def Calm (P : Program) (ops : Array Oper) (S : World → Prop) (o : Oper) (v : Value) (a : Act) : Prop :=
  Region.wanted o (yielded ops a.tmps) = true ∧ ∃ f args, (∀ w, S w → (execOp a.eval o).run P w = .ok (.enter f args) w) ∧ ∀ w, S w → Calls P f args w fun e w' => e = .returned v ∧ w = w'
theorem Calm.runs {i : Nat} {o : Oper} {v : Value} {a : Act} (hi : ops[i]? = some o) (h : Calm P ops S o v a) {K : Act → World → Prop} {w : World} (hS : S w) (hK : K (a.put o.dst v) w) : wpOp P ops Q i K a w := by
  obtain ⟨h1, f, args, h2, h3⟩ := h
  unfold wpOp
  simp only [hi]
  rw [if_pos h1]
  refine Or.inl ?_
  unfold Oper.wp
  rw [h2 w hS]
  refine Calls.mono (h3 w hS) fun e w2 he => ?_
  obtain ⟨rfl, rfl⟩ := he
  exact hK
theorem Calm.stay {o oj : Oper} {v : Value} {a a' : Act} (h : Calm P ops S o v a) (hs : ∀ cs b, o.op ≠ .select cs b) (hl : Left oj a a') (hap : ∀ d, oj.dst = some d → d ∉ o.looksAt ops) : Calm P ops S o v a' := by
  obtain ⟨ds, u, rfl⟩ := hl
  obtain ⟨h1, f, args, h2, h3⟩ := h
  have e1 := execOp_put (ops := ops) o hs { a with defers := ds } oj.dst u hap
  have e2 := wanted_put (ops := ops) o { a with defers := ds } oj.dst u hap
  refine ⟨by rw [e2]; exact h1, f, args, fun w hw => ?_, h3⟩
  rw [e1]
  exact h2 w hw
theorem wpAnyH_calm {i : Nat} {oi : Oper} {v : Value} (hi : ops[i]? = some oi) (hs : Region.noSelect ops = true) (hQ : ∀ c a w, Q (.panic c) (a.put oi.dst v) w → Q (.panic c) a w) :
    ∀ (fuel : Nat) (listed : Array Bool) (a : Act) (w : World), (∀ j oj, ops[j]? = some oj → j ≠ i → listed.getD j true = false → (∀ e ∈ oj.after, Region.binds md e = true → e.on ≠ i) → oi.apart ops oj = true) →
      i ∈ Region.ready md ops listed → Calm P ops S oi v a → S w → wpAnyH P md ops Q S fuel (listed.setIfInBounds i true) (a.put oi.dst v) w → wpAnyH P md ops Q S (fuel + 1) listed a w := by
  have hsel := Region.noSelect_spec hs
  intro fuel
  induction fuel with
  | zero =>
    intro listed a w hfree hr hc hS H
    refine ⟨fun h => absurd hr (by rw [h]; simp), fun j hj => ?_⟩
    rcases Nat.decEq j i with hji | hji
    · have hm := ready_mono hj hji
      rw [H.1] at hm
      cases hm
    · subst hji
      exact hc.runs hi hS ⟨hS, H⟩
  | succ fuel ih =>
    intro listed a w hfree hr hc hS H
    refine ⟨fun h => absurd hr (by rw [h]; simp), fun j hj => ?_⟩
    rcases Nat.decEq j i with hji | hji
    · have hn := H.2 j (ready_mono hj hji)
      obtain ⟨hu, oj, hoj, haf⟩ := mem_ready.1 hj
      have hw : ∀ e ∈ oj.after, Region.binds md e = true → e.on ≠ i := fun e he hb heq => by
        have k1 := haf e he hb
        rw [heq] at k1
        have k2 := (mem_ready.1 hr).1
        rcases Nat.lt_or_ge i listed.size with q | q
        · simp [q] at k1 k2; rw [k2] at k1; cases k1
        · simp [Array.getElem?_eq_none q] at k1
      have hap := hfree j oj hoj hji hu hw
      obtain ⟨_, _, a3⟩ := Oper.apart_spec hap
      have sw := wpOp_putIf (S := fun _ => False) hoj hap (fun cs b => hsel i oi cs b hi) (fun cs b => hsel j oj cs b hoj) hQ (Or.inl ⟨hc.1, fun _ hf => hf.elim⟩) hn
      refine wpOp_mono (fun a' w' h3 => ?_) (wpOp_left hoj sw)
      obtain ⟨hl, _, hS', H'⟩ := h3
      refine ⟨hS', ih (listed.setIfInBounds j true) a' w' (fun k ok hk hki hun hno => ?_) (ready_mono hr (Ne.symm hji)) (hc.stay (fun cs b => hsel i oi cs b hi) hl a3) hS' ?_⟩
      · refine hfree k ok hk hki ?_ hno
        rcases Nat.decEq j k with q | q
        · rw [getD_set_ne true q] at hun; exact hun
        · rw [← q]; exact hu
      · rw [Array.setIfInBounds_comm _ _ hji]
        exact H'
    · subst hji
      exact hc.runs hi hS ⟨hS, H⟩
theorem wpAnyH_takeC {i : Nat} {oi : Oper} {v : Value} {fuel : Nat} {listed : Array Bool} {a : Act} {w : World} (hi : ops[i]? = some oi)
    (hs : Region.noSelect ops = true) (hf : Region.free md ops listed i = true) (hr : (Region.ready md ops listed).contains i = true)
    (hQ : ∀ c a w, Q (.panic c) (a.put oi.dst v) w → Q (.panic c) a w) (hc : Calm P ops S oi v a) (hS : S w)
    (h : wpAnyH P md ops Q S fuel (listed.setIfInBounds i true) (a.put oi.dst v) w) : wpAnyH P md ops Q S (fuel + 1) listed a w :=
  wpAnyH_calm hi hs hQ fuel listed a w (Region.free_spec hi hf) (by simpa using hr) hc hS h
/-- The two moves with the slot that is written spelt out. -/
theorem takeY {i d : Nat} {oi : Oper} {v : Value} {fuel : Nat} {listed : Array Bool} {a : Act} {w : World} (hi : ops[i]? = some oi) (hd : oi.dst = some d)
    (hs : Region.noSelect ops = true) (hf : Region.free md ops listed i = true) (hr : (Region.ready md ops listed).contains i = true)
    (hQ : ∀ c a w, Q (.panic c) (a.put (some d) v) w → Q (.panic c) a w) (hw : Region.wanted oi (yielded ops a.tmps) = true) (hy : ∀ w, S w → (execOp a.eval oi).run P w = .ok (.value v) w) (hS : S w)
    (h : wpAnyH P md ops Q S fuel (listed.setIfInBounds i true) (a.put (some d) v) w) : wpAnyH P md ops Q S (fuel + 1) listed a w :=
  wpAnyH_take hi hs hf hr (by rw [hd]; exact hQ) (Or.inl ⟨hw, hy⟩) hS (by rw [hd]; exact h)
theorem takeC {i d f : Nat} {args : Array Value} {oi : Oper} {v : Value} {fuel : Nat} {listed : Array Bool} {a : Act} {w : World} (hi : ops[i]? = some oi) (hd : oi.dst = some d)
    (hs : Region.noSelect ops = true) (hf : Region.free md ops listed i = true) (hr : (Region.ready md ops listed).contains i = true)
    (hQ : ∀ c a w, Q (.panic c) (a.put (some d) v) w → Q (.panic c) a w) (hw : Region.wanted oi (yielded ops a.tmps) = true) (he : ∀ w, S w → (execOp a.eval oi).run P w = .ok (.enter f args) w) (hc : ∀ w, S w → Calls P f args w fun e w' => e = .returned v ∧ w = w') (hS : S w)
    (h : wpAnyH P md ops Q S fuel (listed.setIfInBounds i true) (a.put (some d) v) w) : wpAnyH P md ops Q S (fuel + 1) listed a w :=
  wpAnyH_takeC hi hs hf hr (by rw [hd]; exact hQ) ⟨hw, f, args, he, hc⟩ hS (by rw [hd]; exact h)
end
end Go.Proofs.Ytoolmmjiemkpbaa
