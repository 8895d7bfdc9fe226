/-
  For the statement CatalogWith: many files appended in a drawn region; what is wanted of a name, list by list.
-/
import Derived.Test.YtoolmmjiemkpbaaZ1
namespace Go.Proofs.Ytoolmmjiemkpbaa
set_option linter.unusedVariables false
set_option linter.unusedSimpArgs false
set_option maxRecDepth 100000
open Go.RowKit

theorem flvs_append (l l' : List Fl) : flvs (l ++ l') = flvs l ++ flvs l' := by unfold flvs; rw [List.flatMap_append]
theorem flAt_append (l l' : List Fl) (i : Nat) : flAt (l ++ l') i = if i < l.length then flAt l i else flAt l' (i - l.length) := by
  unfold flAt
  rw [List.getD_eq_getElem?_getD, List.getElem?_append]
  split <;> rw [List.getD_eq_getElem?_getD]
theorem OwnF.join {w' : World} {base g cap n m : Nat} {l l' : List Fl} (hl : l.length = n) (hl' : l'.length = m) (ho : ∀ i, i < l.length → (flAt l i).Ok) (ho' : ∀ i, i < l'.length → (flAt l' i).Ok) (h : RowN w' base 33 4 (some ⟨g, 0, none⟩) (n + m) cap (flvs l ++ flvs l')) : OwnF w' base (some ⟨g, 0, none⟩) (n + m) cap (l ++ l') := by
  refine ⟨by rw [flvs_append]; exact h, by rw [List.length_append, hl, hl'], fun i hi => ?_⟩
  rw [List.length_append] at hi
  rw [flAt_append]
  split
  · exact ho i (by assumption)
  · exact ho' _ (by omega)
/-- Many files more, in a drawn region. -/
theorem step_fls {w : World} {ops : Array Oper} {o : Oper} {a : Act} {K : Act → World → Prop} {Q : Exit → Act → World → Prop} {E : Prop} (hgd : o.guard = none) (s x : Operand)
    (ho : o.op = .call { callee := .builtin .append, args := #[s, x], argTypes := #[25, 25] })
    (base n cap g : Nat) (l : List Fl) (hs : a.eval s = .slice (some ⟨g, 0, none⟩) n cap) (hown : OwnF w base (some ⟨g, 0, none⟩) n cap l)
    (N : Nat) (A' : Option Addr) (m c' : Nat) (l' : List Fl) (hx : a.eval x = .slice A' m c') (hl' : l'.length = m) (hr : FlR w N A' l') (hnil : A' = none → c' = 0)
    (hl : n + m ≤ 1000000) (hbase : base ≤ w.heap.size)
    (h : ∀ g' cap' w', OwnF w' base (some ⟨g', 0, none⟩) (n + m) cap' (l ++ l') → FlKeep (some ⟨g, 0, none⟩) g' w w' → K (a.put o.dst (.slice (some ⟨g', 0, none⟩) (n + m) cap')) w') :
    if Region.wanted o (yielded ops a.tmps) = true then Oper.wp Try.prog o a w K Q else E := by
  obtain ⟨i0, hi, hz0, hz1, hz2⟩ := info_parts Try.info_file
  have ok' : ∀ i, i < l'.length → (flAt l' i).Ok := fun i hi => by obtain ⟨_, _, _, _, _, _, _, _, q⟩ := hr i hi; exact q
  have hw : Region.wanted o (yielded ops a.tmps) = true := by unfold Region.wanted; rw [hgd]
  rcases Nat.eq_zero_or_pos m with h0 | h0
  · subst h0
    obtain rfl : l' = [] := List.eq_nil_of_length_eq_zero hl'
    have fin : ∀ w', RowN w' base 33 4 (some ⟨g, 0, none⟩) (n + 0) cap (flvs l ++ []) → w.grownBy w' (some g) → K (a.put o.dst (.slice (some ⟨g, 0, none⟩) (n + 0) cap)) w' := fun w' r1 r2 =>
      h g cap w' (OwnF.join (l' := []) hown.2.1 rfl hown.2.2 (fun i hi => absurd hi (by simp)) r1) (flKeep_of (A := some ⟨g, 0, none⟩) (n := n) (cap := cap) r2 (Or.inl rfl))
    rw [if_pos hw]
    cases A' with
    | none =>
      have hc0 := hnil rfl
      subst hc0
      have hrun := run_append_owned_none (P := Try.prog) w base 25 o.type 33 i0 4 Try.underlying25 hi _ n (flvs l) hown.1
      unfold Oper.wp
      simp [execOp, ho, resolve, invoke, builtin, hs, hx, hrun, Result.andThen]
      exact fin w (by rw [List.append_nil]; exact hown.1) (World.grownBy.refl _ _)
    | some ad =>
      obtain ⟨w', hrun, r1, r2⟩ := run_append_fits (P := Try.prog) w base 25 o.type 33 i0 4 Try.underlying25 hi hz1 g n cap (flvs l) hown.1 ad 0 c' [] (by simp) (fun j u hu => by simp at hu) (fun u hu => by simp at hu) (by have := hown.1.cap; omega)
      unfold Oper.wp
      simp [execOp, ho, resolve, invoke, builtin, hs, hx, hrun, Result.andThen]
      exact fin w' r1 r2
  · obtain ⟨b', o', rfl, _⟩ := hr 0 (by omega)
    refine step_append_lies w hgd s x 25 ho base 33 i0 _ 4 32 Try.underlying25 hi hz0 hz1 hz2 rfl (by decide) _ n (flvs l) hs hown.1 ⟨b', o', none⟩ m c' (flvs l') hx (by rw [flvs_len, hl']) hr.src (flvs_one l') h0 (by unfold maxLen; omega) (by omega) hbase w.heap.size rfl ?_
    intro g' cap' w' h1 h2 h3 _
    exact h g' cap' w' (OwnF.join hown.2.1 hl' hown.2.2 ok' h1) (flKeep_of h2 (by rcases h3 with e | e; exact Or.inl e; exact Or.inr (by omega)))
/-- The same in a plain region. -/
theorem app_fls {w : World} {ops : Array Oper} {rs : List Oper} {o : Oper} {a : Act} {Q : Exit → Act → World → Prop} (hgd : o.guard = none) (s x : Operand)
    (ho : o.op = .call { callee := .builtin .append, args := #[s, x], argTypes := #[25, 25] })
    (base n cap g : Nat) (l : List Fl) (hs : a.eval s = .slice (some ⟨g, 0, none⟩) n cap) (hown : OwnF w base (some ⟨g, 0, none⟩) n cap l)
    (N : Nat) (A' : Option Addr) (m c' : Nat) (l' : List Fl) (hx : a.eval x = .slice A' m c') (hl' : l'.length = m) (hr : FlR w N A' l') (hnil : A' = none → c' = 0)
    (hl : n + m ≤ 1000000) (hbase : base ≤ w.heap.size)
    (h : ∀ g' cap' w', OwnF w' base (some ⟨g', 0, none⟩) (n + m) cap' (l ++ l') → FlKeep (some ⟨g, 0, none⟩) g' w w' → wpList Try.prog ops Q rs (a.put o.dst (.slice (some ⟨g', 0, none⟩) (n + m) cap')) w') :
    wpList Try.prog ops Q (o :: rs) a w :=
  wpList_step fun K hK => step_fls hgd s x ho base n cap g l hs hown N A' m c' l' hx hl' hr hnil hl hbase (fun g' cap' w' h1 h2 => hK _ _ (h g' cap' w' h1 h2))
theorem OwnF.empty (w : World) (base : Nat) (hb : base ≤ w.heap.size) : OwnF (w.alloc (.cells #[] 33)) base (some ⟨w.heap.size, 0, none⟩) 0 0 [] := ⟨RowN.empty w _ _ _ hb, rfl, fun i hi => absurd hi (by simp)⟩
theorem putOf_nil (n : Int) : putOf n [] = none := rfl
theorem putOf_succ (n : Int) (put : List Fl) (k : Nat) (hk : k < put.length) : putOf n (put.take (k + 1)) = if (flAt put k).name = n then some (flAt put k) else putOf n (put.take k) := by
  unfold putOf
  rw [List.take_succ_eq_append_getElem hk, List.filter_append, flAt_get hk, List.filter_cons]
  by_cases h : (flAt put k).name = n
  · rw [if_pos (by simpa using h), if_pos h, List.getLast?_append]; rfl
  · rw [if_neg (by simpa using h), if_neg h]; simp
/-- What is wanted of a name, so many of gone, of put being held against it. -/
def want4 (n : Int) (fs : List Fl) (gone : List Int) (k : Nat) : Option Fl := if n ∈ gone.take k then none else fnd Fl.name n fs
def want5 (n : Int) (fs put : List Fl) (gone : List Int) (k : Nat) : Option Fl := (putOf n (put.take k)).or (if n ∈ gone then none else fnd Fl.name n fs)
theorem want4_zero (n : Int) (fs : List Fl) (gone : List Int) : want4 n fs gone 0 = fnd Fl.name n fs := by unfold want4; rw [List.take_zero, if_neg (by simp)]
theorem want4_all (n : Int) (fs put : List Fl) (gone : List Int) : want4 n fs gone gone.length = want5 n fs put gone 0 := by unfold want4 want5; rw [List.take_length, List.take_zero, putOf_nil, Option.none_or]
theorem want4_succ (n : Int) (fs : List Fl) (gone : List Int) (k : Nat) (hk : k < gone.length) : want4 n fs gone (k + 1) = if iAt gone k = n then none else want4 n fs gone k := by
  unfold want4
  have e : gone.take (k + 1) = gone.take k ++ [iAt gone k] := by
    unfold iAt
    rw [List.take_succ_eq_append_getElem hk, List.getD_eq_getElem?_getD, List.getElem?_eq_getElem hk]; rfl
  rw [e]
  by_cases h : iAt gone k = n
  · rw [if_pos h, if_pos (by rw [h]; simp)]
  · rw [if_neg h]
    have : n ∈ gone.take k ++ [iAt gone k] ↔ n ∈ gone.take k := by
      rw [List.mem_append, List.mem_singleton]
      exact ⟨fun q => q.elim id (fun q => absurd q.symm h), Or.inl⟩
    by_cases hm : n ∈ gone.take k
    · rw [if_pos hm, if_pos (this.2 hm)]
    · rw [if_neg hm, if_neg (fun q => hm (this.1 q))]
theorem want5_succ (n : Int) (fs put : List Fl) (gone : List Int) (k : Nat) (hk : k < put.length) : want5 n fs put gone (k + 1) = if (flAt put k).name = n then some (flAt put k) else want5 n fs put gone k := by
  unfold want5
  rw [putOf_succ n put k hk]
  split <;> rfl
theorem want5_all (n : Int) (fs put : List Fl) (gone : List Int) : want5 n fs put gone put.length = fnd Fl.name n (withF fs put gone) := by unfold want5; rw [List.take_length, withF_fnd]
def wF (o : Option Fl) : Fl := o.getD Fl.zero
def wK (o : Option Fl) : Bool := o.isSome
end Go.Proofs.Ytoolmmjiemkpbaa
