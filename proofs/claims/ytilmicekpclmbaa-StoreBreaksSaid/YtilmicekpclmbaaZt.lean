/-
  The contracts of cmp.Compare at int and of package catalog's byName; one file laid into a row of files of the call's own.
  In a region that draws its order, a call that only reads, and whose answer is known, may be taken first: no order of it is to be walked.
-/
import Derived.Test.YtilmicekpclmbaaZr
import Derived.WalkSpells
import Derived.WalkLawsBesides
import Derived.Deep.RegionHeld
import Derived.Test.YtilmicekpclmbaaChecked
namespace Go.Proofs.Ytilmicekpclmbaa
set_option linter.unusedVariables false
set_option linter.unusedSimpArgs false
set_option maxRecDepth 100000
open Go.RowKit

def cmp3 (x y : Int) : Int := if x < y then -1 else if y < x then 1 else 0
theorem cmp3_lt (x y : Int) : decide (cmp3 x y < 0) = decide (x < y) := by
  unfold cmp3
  rw [decide_eq_decide]
  split
  · exact ⟨fun _ => by assumption, fun _ => by decide⟩
  · split
    · exact ⟨fun h => absurd h (by decide), fun h => absurd h (by assumption)⟩
    · exact ⟨fun h => absurd h (by decide), fun h => absurd h (by assumption)⟩
theorem OwnF.cells4 {w : World} {base g n cap : Nat} {l : List Fl} (h : OwnF w base (some ⟨g, 0, none⟩) n cap l) (i : Nat) (hi : i < n) :
    w.cell? ⟨g, i * 4, none⟩ = some (.int .i64 (flAt l i).name) ∧ w.cell? ⟨g, i * 4 + 1, none⟩ = some (.int .i64 (flAt l i).file) ∧ w.cell? ⟨g, i * 4 + 2, none⟩ = some (.int .i64 (flAt l i).first) ∧ w.cell? ⟨g, i * 4 + 3, none⟩ = some (.int .i64 (flAt l i).blocks) ∧ (flAt l i).Ok := by
  obtain ⟨b, o, e, _, h0, h1, h2, h3, h4⟩ := h.reads i (by rw [h.2.1]; exact hi)
  injection e with e
  injection e with e1 e2
  subst e1 e2
  simp only [Nat.zero_add] at h0 h1 h2 h3
  exact ⟨h0, h1, h2, h3, h4⟩
theorem OwnF.frozen {w : World} {base g n cap : Nat} {l : List Fl} (h : OwnF w base (some ⟨g, 0, none⟩) n cap l) (hn : 0 < n) (k : Nat) : w.frozen? ⟨g, k, none⟩ = false := by
  obtain ⟨g', e, h1⟩ := h.1.at hn
  injection e with e
  injection e with e
  subst e
  exact (h1 k).1
theorem flvs_set : ∀ (l : List Fl) (i : Nat) (f : Fl), i < l.length → flvs (l.set i f) = ((((flvs l).set (i * 4) (.int .i64 f.name)).set (i * 4 + 1) (.int .i64 f.file)).set (i * 4 + 2) (.int .i64 f.first)).set (i * 4 + 3) (.int .i64 f.blocks)
  | [], i, f, hi => absurd hi (by simp)
  | x :: r, 0, f, _ => rfl
  | x :: r, i + 1, f, hi => by
    have ih := flvs_set r i f (by simpa using hi)
    show flv x ++ flvs (r.set i f) = _
    rw [ih]
    have e0 : (i + 1) * 4 = i * 4 + 1 + 1 + 1 + 1 := by omega
    have e1 : (i + 1) * 4 + 1 = (i * 4 + 1) + 1 + 1 + 1 + 1 := by omega
    have e2 : (i + 1) * 4 + 2 = (i * 4 + 2) + 1 + 1 + 1 + 1 := by omega
    have e3 : (i + 1) * 4 + 3 = (i * 4 + 3) + 1 + 1 + 1 + 1 := by omega
    rw [e1, e2, e3, e0]
    rfl
theorem flAt_set (l : List Fl) (i j : Nat) (f : Fl) (hi : i < l.length) : flAt (l.set i f) j = if j = i then f else flAt l j := by
  unfold flAt
  rw [List.getD_eq_getElem?_getD, List.getElem?_set]
  split
  · rename_i h
    subst h
    rw [if_pos rfl]; rfl
  · rename_i h
    rw [if_neg (fun e => h e.symm), List.getD_eq_getElem?_getD]
theorem OwnF.set {w : World} {base g n cap : Nat} {l : List Fl} (h : OwnF w base (some ⟨g, 0, none⟩) n cap l) (i : Nat) (hi : i < n) (f : Fl) (hf : f.Ok) :
    OwnF ((((w.setCell ⟨g, i * 4, none⟩ (.int .i64 f.name)).setCell ⟨g, i * 4 + 1, none⟩ (.int .i64 f.file)).setCell ⟨g, i * 4 + 2, none⟩ (.int .i64 f.first)).setCell ⟨g, i * 4 + 3, none⟩ (.int .i64 f.blocks)) base (some ⟨g, 0, none⟩) n cap (l.set i f) := by
  have hl := h.2.1
  refine ⟨?_, by rw [List.length_set]; exact hl, fun j hj => ?_⟩
  · rw [flvs_set l i f (by omega)]
    exact (((h.1.set _ _).set _ _).set _ _).set _ _
  · rw [List.length_set] at hj
    rw [flAt_set l i j f (by omega)]
    split
    · exact hf
    · exact h.2.2 j hj
theorem keep_set {w : World} {g k : Nat} {v : Value} {F : Nat → Prop} (hF : F g) : Keep F w (w.setCell ⟨g, k, none⟩ v) :=
  ⟨rfl, rfl, rfl, by simp [World.setCell], fun j hj hn => Below.heap_setCell _ _ _ _ (fun e => hn (by rw [e]; exact hF))⟩
theorem Keep.drewN {F : Nat → Prop} {w w' : World} (h : Keep F w w') (q : Nat) : Keep F w (w'.drewN q) := ⟨h.os, h.tape, h.output, h.size, h.block⟩
end Go.Proofs.Ytilmicekpclmbaa
namespace Go.Proofs.Ytilmicekpclmbaa
set_option linter.unusedVariables false
set_option linter.unusedSimpArgs false

section
variable {P : Program} {ops : Array Oper} {Q : Exit → Act → World → Prop} {md : Region.Mode} {S : World → Prop}
/-- What an operation may leave of a state. -/
def Left (o : Oper) (a a' : Act) : Prop := ∃ ds u, a' = { a with defers := ds }.put o.dst u
theorem wpOp_left {j : Nat} {o : Oper} (hj : ops[j]? = some o) {K : Act → World → Prop} {a : Act} {w : World} (h : wpOp P ops Q j K a w) : wpOp P ops Q j (fun a' w' => Left o a a' ∧ K a' w') a w := by
  unfold wpOp at *
  simp only [hj] at *
  by_cases hw : Region.wanted o (yielded ops a.tmps) = true
  · rw [if_pos hw] at *
    rcases h with h | h
    · refine Or.inl ?_
      unfold Oper.wp at *
      generalize (execOp a.eval o).run P w = r at *
      cases r with
      | ok n w1 =>
        cases n <;> simp only [Oper.upon] at h ⊢
        case value u => exact ⟨⟨_, u, rfl⟩, h⟩
        case skip => exact ⟨⟨_, _, rfl⟩, h⟩
        case defer d => exact ⟨⟨_, _, rfl⟩, h⟩
        case enter f args =>
          refine Calls.mono h fun e w2 he => ?_
          cases e with
          | returned u => exact ⟨⟨_, u, rfl⟩, he⟩
          | panicked c => exact he
          | outgrown => exact he
        case row row args => exact Rows.mono h fun u w2 he => ⟨⟨_, u, rfl⟩, he⟩
      | halt x w1 => cases x <;> first | exact h | (simp only [Oper.upon] at h ⊢; exact h)
    · exact Or.inr h
  · rw [if_neg hw] at *
    exact ⟨⟨_, _, rfl⟩, h⟩
/-- In state a, in every world that meets S, the operation is a call that answers v and leaves the world as it is. -/
def Calm (P : Program) (ops : Array Oper) (S : World → Prop) (o : Oper) (v : Value) (a : Act) : Prop :=
  Region.wanted o (yielded ops a.tmps) = true ∧ ∃ f args, (∀ w, S w → (execOp a.eval o).run P w = .ok (.enter f args) w) ∧ ∀ w, S w → Calls P f args w fun e w' => e = .returned v ∧ w = w'
theorem Calm.runs {i : Nat} {o : Oper} {v : Value} {a : Act} (hi : ops[i]? = some o) (h : Calm P ops S o v a) {K : Act → World → Prop} {w : World} (hS : S w) (hK : K (a.put o.dst v) w) : wpOp P ops Q i K a w := by
  obtain ⟨h1, f, args, h2, h3⟩ := h
  unfold wpOp
  simp only [hi]
  rw [if_pos h1]
  refine Or.inl ?_
  unfold Oper.wp
  rw [h2 w hS]
  refine Calls.mono (h3 w hS) fun e w2 he => ?_
  obtain ⟨rfl, rfl⟩ := he
  exact hK
theorem Calm.stay {o oj : Oper} {v : Value} {a a' : Act} (h : Calm P ops S o v a) (hs : ∀ cs b, o.op ≠ .select cs b) (hl : Left oj a a') (hap : ∀ d, oj.dst = some d → d ∉ o.looksAt ops) : Calm P ops S o v a' := by
  obtain ⟨ds, u, rfl⟩ := hl
  obtain ⟨h1, f, args, h2, h3⟩ := h
  have e1 := execOp_put (ops := ops) o hs { a with defers := ds } oj.dst u hap
  have e2 := wanted_put (ops := ops) o { a with defers := ds } oj.dst u hap
  refine ⟨by rw [e2]; exact h1, f, args, fun w hw => ?_, h3⟩
  rw [e1]
  exact h2 w hw
theorem wpAnyH_calm {i : Nat} {oi : Oper} {v : Value} (hi : ops[i]? = some oi) (hs : Region.noSelect ops = true) (hQ : ∀ c a w, Q (.panic c) (a.put oi.dst v) w → Q (.panic c) a w) :
    ∀ (fuel : Nat) (listed : Array Bool) (a : Act) (w : World), (∀ j oj, ops[j]? = some oj → j ≠ i → listed.getD j true = false → (∀ e ∈ oj.after, Region.binds md e = true → e.on ≠ i) → oi.apart ops oj = true) →
      i ∈ Region.ready md ops listed → Calm P ops S oi v a → S w → wpAnyH P md ops Q S fuel (listed.setIfInBounds i true) (a.put oi.dst v) w → wpAnyH P md ops Q S (fuel + 1) listed a w := by
  have hsel := Region.noSelect_spec hs
  intro fuel
  induction fuel with
  | zero =>
    intro listed a w hfree hr hc hS H
    refine ⟨fun h => absurd hr (by rw [h]; simp), fun j hj => ?_⟩
    rcases Nat.decEq j i with hji | hji
    · have hm := ready_mono hj hji
      rw [H.1] at hm
      cases hm
    · subst hji
      exact hc.runs hi hS ⟨hS, H⟩
  | succ fuel ih =>
    intro listed a w hfree hr hc hS H
    refine ⟨fun h => absurd hr (by rw [h]; simp), fun j hj => ?_⟩
    rcases Nat.decEq j i with hji | hji
    · have hn := H.2 j (ready_mono hj hji)
      obtain ⟨hu, oj, hoj, haf⟩ := mem_ready.1 hj
      have hw : ∀ e ∈ oj.after, Region.binds md e = true → e.on ≠ i := fun e he hb heq => by
        have k1 := haf e he hb
        rw [heq] at k1
        have k2 := (mem_ready.1 hr).1
        rcases Nat.lt_or_ge i listed.size with q | q
        · simp [q] at k1 k2; rw [k2] at k1; cases k1
        · simp [Array.getElem?_eq_none q] at k1
      have hap := hfree j oj hoj hji hu hw
      obtain ⟨_, _, a3⟩ := Oper.apart_spec hap
      have sw := wpOp_putIf (S := fun _ => False) hoj hap (fun cs b => hsel i oi cs b hi) (fun cs b => hsel j oj cs b hoj) hQ (Or.inl ⟨hc.1, fun _ hf => hf.elim⟩) hn
      refine wpOp_mono (fun a' w' h3 => ?_) (wpOp_left hoj sw)
      obtain ⟨hl, _, hS', H'⟩ := h3
      refine ⟨hS', ih (listed.setIfInBounds j true) a' w' (fun k ok hk hki hun hno => ?_) (ready_mono hr (Ne.symm hji)) (hc.stay (fun cs b => hsel i oi cs b hi) hl a3) hS' ?_⟩
      · refine hfree k ok hk hki ?_ hno
        rcases Nat.decEq j k with q | q
        · rw [getD_set_ne true q] at hun; exact hun
        · rw [← q]; exact hu
      · rw [Array.setIfInBounds_comm _ _ hji]
        exact H'
    · subst hji
      exact hc.runs hi hS ⟨hS, H⟩
theorem wpAnyH_takeC {i : Nat} {oi : Oper} {v : Value} {fuel : Nat} {listed : Array Bool} {a : Act} {w : World} (hi : ops[i]? = some oi)
    (hs : Region.noSelect ops = true) (hf : Region.free md ops listed i = true) (hr : (Region.ready md ops listed).contains i = true)
    (hQ : ∀ c a w, Q (.panic c) (a.put oi.dst v) w → Q (.panic c) a w) (hc : Calm P ops S oi v a) (hS : S w)
    (h : wpAnyH P md ops Q S fuel (listed.setIfInBounds i true) (a.put oi.dst v) w) : wpAnyH P md ops Q S (fuel + 1) listed a w :=
  wpAnyH_calm hi hs hQ fuel listed a w (Region.free_spec hi hf) (by simpa using hr) hc hS h
/-- The two moves with the slot that is written spelt out. -/
theorem takeY {i d : Nat} {oi : Oper} {v : Value} {fuel : Nat} {listed : Array Bool} {a : Act} {w : World} (hi : ops[i]? = some oi) (hd : oi.dst = some d)
    (hs : Region.noSelect ops = true) (hf : Region.free md ops listed i = true) (hr : (Region.ready md ops listed).contains i = true)
    (hQ : ∀ c a w, Q (.panic c) (a.put (some d) v) w → Q (.panic c) a w) (hw : Region.wanted oi (yielded ops a.tmps) = true) (hy : ∀ w, S w → (execOp a.eval oi).run P w = .ok (.value v) w) (hS : S w)
    (h : wpAnyH P md ops Q S fuel (listed.setIfInBounds i true) (a.put (some d) v) w) : wpAnyH P md ops Q S (fuel + 1) listed a w :=
  wpAnyH_take hi hs hf hr (by rw [hd]; exact hQ) (Or.inl ⟨hw, hy⟩) hS (by rw [hd]; exact h)
theorem takeC {i d f : Nat} {args : Array Value} {oi : Oper} {v : Value} {fuel : Nat} {listed : Array Bool} {a : Act} {w : World} (hi : ops[i]? = some oi) (hd : oi.dst = some d)
    (hs : Region.noSelect ops = true) (hf : Region.free md ops listed i = true) (hr : (Region.ready md ops listed).contains i = true)
    (hQ : ∀ c a w, Q (.panic c) (a.put (some d) v) w → Q (.panic c) a w) (hw : Region.wanted oi (yielded ops a.tmps) = true) (he : ∀ w, S w → (execOp a.eval oi).run P w = .ok (.enter f args) w) (hc : ∀ w, S w → Calls P f args w fun e w' => e = .returned v ∧ w = w') (hS : S w)
    (h : wpAnyH P md ops Q S fuel (listed.setIfInBounds i true) (a.put (some d) v) w) : wpAnyH P md ops Q S (fuel + 1) listed a w :=
  wpAnyH_takeC hi hs hf hr (by rw [hd]; exact hQ) ⟨hw, f, args, he, hc⟩ hS (by rw [hd]; exact h)
end
end Go.Proofs.Ytilmicekpclmbaa
