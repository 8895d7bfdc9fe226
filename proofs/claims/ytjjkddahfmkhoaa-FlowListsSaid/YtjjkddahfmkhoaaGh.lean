/-
  Package flow: groups as data; what Groups has in memory while it walks.
-/
import Derived.Test.YtjjkddahfmkhoaaGc
namespace Go.Proofs.Ytjjkddahfmkhoaa
set_option linter.unusedVariables false
set_option linter.unusedSimpArgs false
set_option maxRecDepth 100000
open Go.RowKit Go.Shelf
attribute [local go_sem] Oper.semAt_some

/-- The groups that are done, and the one that is under way. -/
def gstep (sm : Int → Int → Bool) (st : List (List Int) × List Int) (x : Int) : List (List Int) × List Int :=
  match st.2 with
  | [] => (st.1, [x])
  | a :: r => if sm a x then (st.1, (a :: r) ++ [x]) else (st.1 ++ [a :: r], [x])
def gst (sm : Int → Int → Bool) (xs : List Int) : List (List Int) × List Int := xs.foldl (gstep sm) ([], [])
theorem gst_snoc (sm : Int → Int → Bool) (xs : List Int) (x : Int) : gst sm (xs ++ [x]) = gstep sm (gst sm xs) x := by unfold gst; rw [List.foldl_append]; rfl
def groups (sm : Int → Int → Bool) (xs : List Int) : List (List Int) := if (gst sm xs).2 = [] then (gst sm xs).1 else (gst sm xs).1 ++ [(gst sm xs).2]
theorem gst_nil {sm : Int → Int → Bool} {xs : List Int} (x : Int) (h : (gst sm xs).2 = []) : gst sm (xs ++ [x]) = ((gst sm xs).1, [x]) := by rw [gst_snoc]; unfold gstep; rw [h]
theorem gst_same {sm : Int → Int → Bool} {xs r : List Int} {a x : Int} (h : (gst sm xs).2 = a :: r) (hs : sm a x = true) : gst sm (xs ++ [x]) = ((gst sm xs).1, (gst sm xs).2 ++ [x]) := by rw [gst_snoc]; unfold gstep; rw [h]; simp [hs]
theorem gst_next {sm : Int → Int → Bool} {xs r : List Int} {a x : Int} (h : (gst sm xs).2 = a :: r) (hs : sm a x = false) : gst sm (xs ++ [x]) = ((gst sm xs).1 ++ [(gst sm xs).2], [x]) := by rw [gst_snoc]; unfold gstep; rw [h]; simp [hs]
theorem snoc_ind {α : Type} {p : List α → Prop} (h0 : p []) (hs : ∀ l x, p l → p (l ++ [x])) (l : List α) : p l := by
  have h : ∀ l : List α, p l.reverse := fun l => by
    induction l with
    | nil => exact h0
    | cons x l ih => rw [List.reverse_cons]; exact hs _ _ ih
  have := h l.reverse
  rw [List.reverse_reverse] at this
  exact this
theorem gst_flat (sm : Int → Int → Bool) (xs : List Int) : (gst sm xs).1.flatten ++ (gst sm xs).2 = xs := by
  refine snoc_ind (p := fun xs => (gst sm xs).1.flatten ++ (gst sm xs).2 = xs) rfl (fun xs x ih => ?_) xs
  cases hc : (gst sm xs).2 with
  | nil => rw [gst_nil x hc]; rw [hc, List.append_nil] at ih; show _ ++ [x] = _; rw [ih]
  | cons a r =>
    cases hs : sm a x with
    | true => rw [gst_same hc hs]; show _ ++ (_ ++ [x]) = _; rw [← List.append_assoc, ih]
    | false => rw [gst_next hc hs]; show (_ ++ [_]).flatten ++ [x] = _; rw [List.flatten_append, List.flatten_singleton, ih]
theorem gst_len (sm : Int → Int → Bool) (xs : List Int) : (gst sm xs).2.length ≤ xs.length := by
  have h := congrArg List.length (gst_flat sm xs)
  rw [List.length_append] at h
  omega
theorem gst_mem {sm : Int → Int → Bool} {xs r : List Int} {a : Int} (h : (gst sm xs).2 = a :: r) : a ∈ xs := by
  rw [← gst_flat sm xs, h]
  simp
/-- A group in memory. -/
structure Grp where
  A : Option Addr
  n : Nat
  c : Nat
  l : List Int
def encG (x : Grp) : Array Value := #[.slice x.A x.n x.c]
def Grp.At (W : World) (x : Grp) : Prop := RowA W 3 x.A x.c (fv x.l) ∧ x.n = x.l.length
theorem Left.trans {A X A1 A2 : Nat → Prop} {W W1 W2 : World} (h : Left A X W W1 A1) (k : Left A1 (fun _ => False) W1 W2 A2) : Left A X W W2 A2 := by
  have hs := h.keep.size
  refine ⟨⟨k.keep.os.trans h.keep.os, k.keep.tape.trans h.keep.tape, k.keep.output.trans h.keep.output, Nat.le_trans hs k.keep.size, fun q h1 h2 => ?_⟩, k.low, fun q hq => ?_⟩
  · refine (k.keep.block q (by omega) (fun e => ?_)).trans (h.keep.block q h1 h2)
    rcases e with e | e
    · rcases h.sub q e with e | e | e
      · exact h2 (Or.inl e)
      · exact h2 (Or.inr e)
      · omega
    · exact e
  · rcases k.sub q hq with e | e | e
    · exact h.sub q e
    · exact e.elim
    · exact Or.inr (Or.inr (by omega))
theorem Left.more {A X Y A1 : Nat → Prop} {W W1 : World} (h : Left A X W W1 A1) (k : ∀ q, X q → Y q) : Left A Y W W1 A1 :=
  ⟨h.keep.more (fun q e => e.elim Or.inl (fun e => Or.inr (k q e))), h.low, fun q hq => by rcases h.sub q hq with e | e | e; exact Or.inl e; exact Or.inr (Or.inl (k q e)); exact Or.inr (Or.inr e)⟩
theorem Left.still {A : Nat → Prop} {W W1 : World} (h : Low A W) (k : Keep (fun _ => False) W W1) : Left A (fun _ => False) W W1 A :=
  ⟨k.more (fun q e => e.elim), fun q hq => Nat.lt_of_lt_of_le (h q hq) k.size, fun q hq => Or.inl hq⟩
/-- What Groups has between the loop and the iterator below: the loop's J, the yield's and the group's variables, the group's row, blocks as they were in w. -/
structure GI {β : Type} (l yb gb : Nat) (It2 : Nat → Prop) (w : World) (A : Nat → Prop) (W : World) (J : β → (Nat → Prop) → World → Prop) (ys : β) (cur : List Int) (A2 : Nat → Prop) (V : World) (A' : Nat → Prop) (Ar : Option Addr) (c : Nat) : Prop where
  eq : ∀ k, A2 k ↔ A' k ∨ (k = yb ∨ k = gb ∨ It2 k) ∨ Of Ar k
  out : ∀ k, A' k → (k ≠ yb ∧ k ≠ gb ∧ ¬ It2 k ∧ ¬ Of Ar k) ∧ (A k ∨ W.heap.size ≤ k)
  new : ∀ a, Ar = some a → (a.block ≠ yb ∧ a.block ≠ gb ∧ ¬ It2 a.block) ∧ W.heap.size ≤ a.block
  j : J ys A' V
  y : Arr V yb 63 [.func (.yield l) #[] #[]]
  g : Arr V gb 24 [.slice Ar cur.length c]
  r : RowA V 3 Ar c (fv cur)
  k : Keep (fun k => ¬ It2 k) w V
theorem GI.keep {β : Type} {l yb gb : Nat} {It2 : Nat → Prop} {w : World} {A : Nat → Prop} {W : World} {J : β → (Nat → Prop) → World → Prop} {ys : β} {cur : List Int} {A2 : Nat → Prop} {V V' : World} {A' : Nat → Prop} {Ar : Option Addr} {c : Nat} (h : GI l yb gb It2 w A W J ys cur A2 V A' Ar c) (hJ : Stab J) (hl : Low It2 w) {F : Nat → Prop} (k : Keep F V V') (hF : ∀ q, F q → ¬ A2 q) : GI l yb gb It2 w A W J ys cur A2 V' A' Ar c :=
  ⟨h.eq, h.out, h.new, hJ.at h.j k (fun q hq hA => hF q hq ((h.eq q).2 (Or.inl hA))), h.y.keepF k (fun e => hF _ e ((h.eq _).2 (Or.inr (Or.inl (Or.inl rfl))))), h.g.keepF k (fun e => hF _ e ((h.eq _).2 (Or.inr (Or.inl (Or.inr (Or.inl rfl)))))), h.r.keepF k (fun a ha e => hF _ e ((h.eq _).2 (Or.inr (Or.inr ⟨a, ha, rfl⟩)))),
    ⟨k.os.trans h.k.os, k.tape.trans h.k.tape, k.output.trans h.k.output, Nat.le_trans h.k.size k.size, fun b h1 h2 => (k.block b (by have := h.k.size; omega) (fun e => hF b e ((h.eq b).2 (Or.inr (Or.inl (Or.inr (Or.inr (Classical.byContradiction h2)))))))).trans (h.k.block b h1 h2)⟩⟩
theorem GI.low {β : Type} {l yb gb : Nat} {It2 : Nat → Prop} {w : World} {A : Nat → Prop} {W : World} {J : β → (Nat → Prop) → World → Prop} {ys : β} {cur : List Int} {A2 : Nat → Prop} {V : World} {A' : Nat → Prop} {Ar : Option Addr} {c : Nat} (h : GI l yb gb It2 w A W J ys cur A2 V A' Ar c) (hl : Low It2 w) (ha : Low A' V) : Low A2 V := fun q hq => by
  rcases (h.eq q).1 hq with e | (rfl | rfl | e) | ⟨a, ha, rfl⟩
  · exact ha q e
  · exact Arr.lt h.y
  · exact Arr.lt h.g
  · exact Nat.lt_of_lt_of_le (hl q e) h.k.size
  · exact h.r.lt a ha
/-- One more element in the group. -/
theorem GI.app {β : Type} {l yb gb : Nat} {It2 : Nat → Prop} {w : World} {A : Nat → Prop} {W : World} {J : β → (Nat → Prop) → World → Prop} {ys : β} {cur : List Int} {A2 : Nat → Prop} {V V2 : World} {A' : Nat → Prop} {Ar A2r : Option Addr} {c c2 n : Nat} {x : Int} (h : GI l yb gb It2 w A W J ys cur A2 V A' Ar c) (hJ : Stab J) (hl : Low It2 w) (hlo : Low A' V) (hW : W.heap.size ≤ V.heap.size) (hg : yb ≠ gb ∧ ¬ It2 gb) (hn : cur.length = n)
    (r2 : RowA V2 3 A2r c2 (fv cur ++ [.int .i64 x])) (k2 : Keep (Of Ar) (V.alloc (.cells #[.int .i64 x] 3)) V2) (w2 : A2r = Ar ∨ ∃ g, A2r = some ⟨g, 0, none⟩ ∧ (V.alloc (.cells #[.int .i64 x] 3)).heap.size ≤ g) :
    ∃ A3, Left A2 (fun _ => False) V (V2.setCell ⟨gb, 0, none⟩ (.slice A2r (n + 1) c2)) A3 ∧ Low A' (V2.setCell ⟨gb, 0, none⟩ (.slice A2r (n + 1) c2)) ∧ GI l yb gb It2 w A W J ys (cur ++ [x]) A3 (V2.setCell ⟨gb, 0, none⟩ (.slice A2r (n + 1) c2)) A' A2r c2 := by
  have kk : Keep (fun k => Of Ar k ∨ k = gb) V (V2.setCell ⟨gb, 0, none⟩ (.slice A2r (n + 1) c2)) := (((Keep.alloc V _).then k2).then (Keep.set V2 gb 0 _)).more (fun q e => e.elim (fun e => e.elim False.elim Or.inl) Or.inr)
  have sz : V.heap.size ≤ V2.heap.size := by have := k2.size; simp at this; omega
  have new : ∀ a, A2r = some a → Of Ar a.block ∨ V.heap.size ≤ a.block := fun a ha => by
    rcases w2 with e | ⟨g, e, hg⟩
    · exact Or.inl ⟨a, by rw [← e]; exact ha, rfl⟩
    · rw [e] at ha; injection ha with ha; subst ha; simp at hg; exact Or.inr (by show V.heap.size ≤ g; omega)
  have gV : gb < V.heap.size := Arr.lt h.g
  have yV : yb < V.heap.size := Arr.lt h.y
  have nout : ∀ a, A2r = some a → (a.block ≠ yb ∧ a.block ≠ gb ∧ ¬ It2 a.block) ∧ W.heap.size ≤ a.block := fun a ha => by
    rcases new a ha with ⟨b, hb, e⟩ | e
    · rw [e]; exact h.new b hb
    · exact ⟨⟨by omega, by omega, fun hi => by have := hl _ hi; have := h.k.size; omega⟩, by omega⟩
  have offs : ∀ q, Of Ar q ∨ q = gb → ¬ A' q := fun q e hq => by
    rcases e with e | rfl
    · exact (h.out q hq).1.2.2.2 e
    · exact (h.out _ hq).1.2.1 rfl
  have lo2 : Low A' (V2.setCell ⟨gb, 0, none⟩ (.slice A2r (n + 1) c2)) := fun q hq => Nat.lt_of_lt_of_le (hlo q hq) kk.size
  refine ⟨fun k => A' k ∨ (k = yb ∨ k = gb ∨ It2 k) ∨ Of A2r k, ⟨kk.more (fun q e => Or.inl ((h.eq q).2 (by rcases e with e | e; exact Or.inr (Or.inr e); exact Or.inr (Or.inl (Or.inr (Or.inl e)))))), fun q hq => ?_, fun q hq => ?_⟩, lo2, fun k => Iff.rfl, fun q hq => ⟨⟨(h.out q hq).1.1, (h.out q hq).1.2.1, (h.out q hq).1.2.2.1, fun ⟨a, ha, e⟩ => ?_⟩, (h.out q hq).2⟩, nout, hJ.at h.j kk offs, h.y.keepF kk (fun e => by rcases e with ⟨a, ha, e⟩ | e; exact (h.new a ha).1.1 e.symm; exact hg.1 e), ?_, ?_, ?_⟩
  · rcases hq with e | (rfl | rfl | e) | ⟨a, ha, rfl⟩
    · exact lo2 q e
    · exact Nat.lt_of_lt_of_le yV kk.size
    · exact Nat.lt_of_lt_of_le gV kk.size
    · exact Nat.lt_of_lt_of_le (hl q e) (Nat.le_trans h.k.size kk.size)
    · rw [fset_size]; exact r2.lt a ha
  · rcases hq with e | e | ⟨a, ha, rfl⟩
    · exact Or.inl ((h.eq q).2 (Or.inl e))
    · exact Or.inl ((h.eq q).2 (Or.inr (Or.inl e)))
    · rcases new a ha with e | e
      · exact Or.inl ((h.eq _).2 (Or.inr (Or.inr e)))
      · exact Or.inr (Or.inr e)
  · rcases new a ha with e' | e'
    · exact (h.out q hq).1.2.2.2 (by rw [e]; exact e')
    · have := hlo q hq; omega
  · have g2 : Arr V2 gb 24 [.slice Ar cur.length c] := h.g.keepF ((Keep.alloc V _).then k2) (fun e => by
      rcases e with e | ⟨a, ha, e⟩
      · exact e
      · exact (h.new a ha).1.2.1 e.symm)
    have := g2.set 0 (.slice A2r (n + 1) c2)
    rw [List.length_append, hn]
    exact this
  · have := r2.other (r := gb) (k := 0) (fun a ha e => (nout a ha).1.2.1 e) (.slice A2r (n + 1) c2)
    rw [fv_app]
    exact this
  · refine ⟨kk.os.trans h.k.os, kk.tape.trans h.k.tape, kk.output.trans h.k.output, Nat.le_trans h.k.size kk.size, fun q h1 h2 => ?_⟩
    have h3 : It2 q := Classical.byContradiction h2
    exact (kk.block q (by have := h.k.size; omega) (fun e => by rcases e with ⟨a, ha, rfl⟩ | rfl; exact (h.new a ha).1.2.2 h3; exact hg.2 h3)).trans (h.k.block q h1 h2)
/-- The group is handed over; its variable is made nil. -/
theorem GI.yielded {β γ : Type} {l yb gb : Nat} {It2 : Nat → Prop} {w : World} {A : Nat → Prop} {W : World} {J : β → (Nat → Prop) → World → Prop} {Jj : γ → (Nat → Prop) → World → Prop} {ys : β} {zs : γ} {cur : List Int} {A2 : Nat → Prop} {V V3 : World} {A' A'' : Nat → Prop} {Ar : Option Addr} {c : Nat} (h : GI l yb gb It2 w A W J ys cur A2 V A' Ar c) (hJj : Stab Jj) (hl : Low It2 w) (hW : W.heap.size ≤ V.heap.size) (hg : yb ≠ gb ∧ ¬ It2 gb)
    (lf : Left A' (Of Ar) V V3 A'') (hj : Jj zs A'' V3) :
    (∃ A3, Left A2 (fun _ => False) V V3 A3 ∧ Low A'' V3 ∧ ((∀ k, A3 k ↔ A'' k ∨ k = yb ∨ k = gb ∨ It2 k) ∧ (∀ k, A'' k → (k ≠ yb ∧ k ≠ gb ∧ ¬ It2 k) ∧ (A k ∨ W.heap.size ≤ k))) ∧ Arr V3 gb 24 [.slice Ar cur.length c] ∧ Keep (fun k => ¬ It2 k) w V3) ∧
    ∃ A3, Left A2 (fun _ => False) V (V3.setCell ⟨gb, 0, none⟩ (.slice none 0 0)) A3 ∧ Low A'' (V3.setCell ⟨gb, 0, none⟩ (.slice none 0 0)) ∧ GI l yb gb It2 w A W Jj zs [] A3 (V3.setCell ⟨gb, 0, none⟩ (.slice none 0 0)) A'' none 0 := by
  have gV : gb < V.heap.size := Arr.lt h.g
  have yV : yb < V.heap.size := Arr.lt h.y
  have iV : ∀ q, It2 q → q < V.heap.size := fun q hq => Nat.lt_of_lt_of_le (hl q hq) h.k.size
  have n1 : ∀ q, q < V.heap.size → ¬ A' q → ¬ Of Ar q → ¬ A'' q := fun q h1 h2 h4 h3 => by rcases lf.sub q h3 with e | e | e; exact h2 e; exact h4 e; omega
  have sep : ∀ q, q = yb ∨ q = gb ∨ It2 q → q < V.heap.size ∧ ¬ A' q ∧ ¬ Of Ar q := fun q e => by
    rcases e with rfl | rfl | e
    · exact ⟨yV, fun hq => (h.out _ hq).1.1 rfl, fun ⟨a, ha, e⟩ => (h.new a ha).1.1 e.symm⟩
    · exact ⟨gV, fun hq => (h.out _ hq).1.2.1 rfl, fun ⟨a, ha, e⟩ => (h.new a ha).1.2.1 e.symm⟩
    · exact ⟨iV q e, fun hq => (h.out _ hq).1.2.2.1 e, fun ⟨a, ha, e'⟩ => (h.new a ha).1.2.2 (by rw [← e']; exact e)⟩
  have nA : ∀ q, q = yb ∨ q = gb ∨ It2 q → ¬ A'' q := fun q e => n1 q (sep q e).1 (sep q e).2.1 (sep q e).2.2
  have dA : ∀ k, A'' k → (k ≠ yb ∧ k ≠ gb ∧ ¬ It2 k) ∧ (A k ∨ W.heap.size ≤ k) := fun q hq => ⟨⟨fun e => nA q (Or.inl e) hq, fun e => nA q (Or.inr (Or.inl e)) hq, fun e => nA q (Or.inr (Or.inr e)) hq⟩, by
    rcases lf.sub q hq with e | ⟨a, ha, rfl⟩ | e
    · exact (h.out q e).2
    · exact Or.inr (h.new a ha).2
    · exact Or.inr (by omega)⟩
  have kv : ∀ q, q = yb ∨ q = gb ∨ It2 q → V3.heap[q]? = V.heap[q]? := fun q e => lf.keep.block q (sep q e).1 (fun h => h.elim (sep q e).2.1 (sep q e).2.2)
  have kA2 : Keep (fun k => A2 k ∨ False) V V3 := lf.keep.more (fun q e => Or.inl ((h.eq q).2 (by rcases e with e | e; exact Or.inl e; exact Or.inr (Or.inr e))))
  have sub3 : ∀ q, (A'' q ∨ q = yb ∨ q = gb ∨ It2 q) → A2 q ∨ False ∨ V.heap.size ≤ q := fun q e => by
    rcases e with e | e
    · rcases lf.sub q e with e | e | e
      · exact Or.inl ((h.eq q).2 (Or.inl e))
      · exact Or.inl ((h.eq q).2 (Or.inr (Or.inr e)))
      · exact Or.inr (Or.inr e)
    · exact Or.inl ((h.eq q).2 (Or.inr (Or.inl e)))
  have low3 : ∀ V' : World, V3.heap.size ≤ V'.heap.size → Low (fun q => A'' q ∨ q = yb ∨ q = gb ∨ It2 q) V' := fun V' hv q e => by
    rcases e with e | e
    · exact Nat.lt_of_lt_of_le (lf.low q e) hv
    · exact Nat.lt_of_lt_of_le (sep q e).1 (Nat.le_trans lf.keep.size hv)
  have k3 : Keep (fun k => ¬ It2 k) w V3 := ⟨lf.keep.os.trans h.k.os, lf.keep.tape.trans h.k.tape, lf.keep.output.trans h.k.output, Nat.le_trans h.k.size lf.keep.size, fun q h1 h2 => (kv q (Or.inr (Or.inr (Classical.byContradiction h2)))).trans (h.k.block q h1 h2)⟩
  refine ⟨⟨_, ⟨kA2, low3 V3 (Nat.le_refl _), sub3⟩, lf.low, ⟨fun k => Iff.rfl, dA⟩, h.g.same (kv gb (Or.inr (Or.inl rfl))), k3⟩, ?_⟩
  have ks := Keep.set V3 gb 0 (.slice none 0 0)
  have kA4 : Keep (fun k => A2 k ∨ False) V (V3.setCell ⟨gb, 0, none⟩ (.slice none 0 0)) := (kA2.then ks).more (fun q e => e.elim id (fun e => Or.inl ((h.eq q).2 (Or.inr (Or.inl (Or.inr (Or.inl e)))))))
  refine ⟨fun q => A'' q ∨ (q = yb ∨ q = gb ∨ It2 q) ∨ Of none q, ⟨kA4, fun q e => ?_, fun q e => ?_⟩, fun q e => by rw [fset_size]; exact lf.low q e, fun k => Iff.rfl, fun q hq => ⟨⟨(dA q hq).1.1, (dA q hq).1.2.1, (dA q hq).1.2.2, fun ⟨a, ha, _⟩ => by cases ha⟩, (dA q hq).2⟩, fun a ha => (by cases ha), hJj.at hj ks (fun q e => by subst e; exact nA _ (Or.inr (Or.inl rfl))), ?_, ?_, RowA.nil _ _, ?_⟩
  · refine low3 _ (by rw [fset_size]; exact Nat.le_refl _) q ?_
    rcases e with e | e | ⟨a, ha, _⟩
    · exact Or.inl e
    · exact Or.inr e
    · cases ha
  · refine sub3 q ?_
    rcases e with e | e | ⟨a, ha, _⟩
    · exact Or.inl e
    · exact Or.inr e
    · cases ha
  · exact (h.y.same (kv yb (Or.inl rfl))).far hg.1 _
  · have := (h.g.same (kv gb (Or.inr (Or.inl rfl)))).set 0 (.slice none 0 0)
    exact this
  · exact ⟨k3.os, k3.tape, k3.output, by rw [fset_size]; exact k3.size, fun q h1 h2 => (ks.block q (by have := k3.size; omega) (fun e => by subst e; exact h2 hg.2)).trans (k3.block q h1 h2)⟩
end Go.Proofs.Ytjjkddahfmkhoaa
