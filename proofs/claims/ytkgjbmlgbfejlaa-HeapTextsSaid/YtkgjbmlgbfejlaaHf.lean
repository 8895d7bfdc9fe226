/-
  Forests in memory: what lies in them, which blocks they lie in, what is laid onto what.
-/
import Derived.Test.YtkgjbmlgbfejlaaHm
namespace Go.Proofs.Ytkgjbmlgbfejlaa
set_option linter.unusedVariables false
set_option linter.unusedSimpArgs false
open Go.RowKit
variable {α : Type}

/-- Things, all that lies behind them, and the blocks in which it lies. -/
inductive Fo (K : El α) (w : World) : List (En α) → List α → List Nat → Prop
  | nil : Fo K w [] [] []
  | cons {e : En α} {r es : List (En α)} {C1 C2 : List α} {F1 F2 : List Nat} (h1 : Vw K w e.A e.n e.c es) (h2 : Fo K w es C1 F1) (h3 : ∀ y, y ∈ C1 → K.key e.x < K.key y) (h4 : Fo K w r C2 F2) (h5 : (blk e.A ++ (F1 ++ F2)).Nodup) : Fo K w (e :: r) (e.x :: (C1 ++ C2)) (blk e.A ++ (F1 ++ F2))
theorem Fo.same {K : El α} {w w' : World} {l : List (En α)} {C : List α} {F : List Nat} (h : Fo K w l C F) : (∀ b, b ∈ F → w'.heap[b]? = w.heap[b]?) → Fo K w' l C F := by
  induction h with
  | nil => exact fun _ => .nil
  | cons h1 h2 h3 h4 h5 i2 i4 => exact fun k => .cons (h1.same fun b hb => k b (by simp [hb])) (i2 fun b hb => k b (by simp [hb])) h3 (i4 fun b hb => k b (by simp [hb])) h5
theorem Fo.kind {K : El α} {w : World} {l : List (En α)} {C : List α} {F : List Nat} (h : Fo K w l C F) : ∀ b, b ∈ F → ∃ cur, w.heap[b]? = some (.cells cur K.T (0, 0)) := by
  induction h with
  | nil => intro b hb; cases hb
  | cons h1 h2 h3 h4 h5 i2 i4 =>
    intro b hb
    rcases List.mem_append.1 hb with q | q
    · exact h1.kind b q
    · rcases List.mem_append.1 q with q | q
      · exact i2 b q
      · exact i4 b q
theorem Fo.lt {K : El α} {w : World} {l : List (En α)} {C : List α} {F : List Nat} (h : Fo K w l C F) (b : Nat) (hb : b ∈ F) : b < w.heap.size := by
  obtain ⟨cur, h1⟩ := h.kind b hb; exact heap_lt h1
theorem Fo.nodup {K : El α} {w : World} {l : List (En α)} {C : List α} {F : List Nat} (h : Fo K w l C F) : F.Nodup := by
  cases h with
  | nil => exact List.nodup_nil
  | cons h1 h2 h3 h4 h5 => exact h5
theorem Fo.keep {K : El α} {w w' : World} {l : List (En α)} {C : List α} {F : List Nat} {G : Nat → Prop} (h : Fo K w l C F) (k : Keep G w w') (hn : ∀ b, b ∈ F → ¬ G b) : Fo K w' l C F := h.same fun b hb => k.block b (h.lt b hb) (hn b hb)
theorem Fo.older {K : El α} {w w' : World} {l : List (En α)} {C : List α} {F : List Nat} (h : Fo K w l C F) (k : Below w.heap.size w w') : Fo K w' l C F := h.same fun b hb => k.block b (h.lt b hb)
theorem Fo.app {K : El α} {w : World} {a b : List (En α)} {Ca Cb : List α} {Fa Fb : List Nat} (h : Fo K w a Ca Fa) (h' : Fo K w b Cb Fb) (hn : (Fa ++ Fb).Nodup) : Fo K w (a ++ b) (Ca ++ Cb) (Fa ++ Fb) := by
  induction h with
  | nil => exact h'
  | @cons e r es C1 C2 F1 F2 h1 h2 h3 h4 h5 i2 i4 =>
    have e1 : blk e.A ++ (F1 ++ F2) ++ Fb = blk e.A ++ (F1 ++ (F2 ++ Fb)) := by simp
    rw [e1] at hn ⊢
    have e2 : e.x :: (C1 ++ C2) ++ Cb = e.x :: (C1 ++ (C2 ++ Cb)) := by simp
    rw [e2]
    refine Fo.cons h1 h2 h3 (i4 ?_) hn
    exact (hn.sublist (List.sublist_append_right _ _)).sublist (List.sublist_append_right _ _)
theorem Fo.split {K : El α} {w : World} (b : List (En α)) : ∀ (a : List (En α)) (C : List α) (F : List Nat), Fo K w (a ++ b) C F → ∃ Ca Cb Fa Fb, C = Ca ++ Cb ∧ F = Fa ++ Fb ∧ Fo K w a Ca Fa ∧ Fo K w b Cb Fb
  | [], C, F, h => ⟨[], C, [], F, rfl, rfl, .nil, h⟩
  | e :: a, C, F, h => by
    cases h with
    | @cons _ _ es C1 C2 F1 F2 h1 h2 h3 h4 h5 =>
      obtain ⟨Ca, Cb, Fa, Fb, rfl, rfl, q1, q2⟩ := Fo.split b a _ _ h4
      refine ⟨e.x :: (C1 ++ Ca), Cb, blk e.A ++ (F1 ++ Fa), Fb, by simp, by simp, .cons h1 h2 h3 q1 ?_, q2⟩
      have e1 : blk e.A ++ (F1 ++ (Fa ++ Fb)) = (blk e.A ++ (F1 ++ Fa)) ++ Fb := by simp
      rw [e1] at h5
      exact h5.sublist (List.sublist_append_left _ _)
theorem Fo.one {K : El α} {w : World} {e : En α} {C : List α} {F : List Nat} (h : Fo K w [e] C F) : ∃ es C1 F1, Vw K w e.A e.n e.c es ∧ Fo K w es C1 F1 ∧ (∀ y, y ∈ C1 → K.key e.x < K.key y) ∧ C = e.x :: C1 ∧ F = blk e.A ++ F1 ∧ (blk e.A ++ F1).Nodup := by
  cases h with
  | @cons _ _ es C1 C2 F1 F2 h1 h2 h3 h4 h5 =>
    cases h4
    exact ⟨es, C1, F1, h1, h2, h3, by simp, by simp, by simpa using h5⟩
theorem Fo.mk1 {K : El α} {w : World} {e : En α} {es : List (En α)} {C1 : List α} {F1 : List Nat} (h1 : Vw K w e.A e.n e.c es) (h2 : Fo K w es C1 F1) (h3 : ∀ y, y ∈ C1 → K.key e.x < K.key y) (h5 : (blk e.A ++ F1).Nodup) : Fo K w [e] (e.x :: C1) (blk e.A ++ F1) := by
  have := Fo.cons h1 h2 h3 Fo.nil (by simpa using h5)
  simpa using this
theorem Fo.least_of {K : El α} {w : World} {l : List (En α)} {C : List α} {F : List Nat} (h : Fo K w l C F) : ∀ y, y ∈ C → ∃ e, e ∈ l ∧ (e.x = y ∨ K.key e.x < K.key y) := by
  induction h with
  | nil => intro y hy; cases hy
  | @cons e r es C1 C2 F1 F2 h1 h2 h3 h4 h5 i2 i4 =>
    intro y hy
    rcases List.mem_cons.1 hy with q | q
    · exact ⟨e, by simp, Or.inl q.symm⟩
    · rcases List.mem_append.1 q with q | q
      · exact ⟨e, by simp, Or.inr (h3 y q)⟩
      · obtain ⟨e', k1, k2⟩ := i4 y q
        exact ⟨e', by simp [k1], k2⟩
theorem Fo.mem {K : El α} {w : World} {l : List (En α)} {C : List α} {F : List Nat} (h : Fo K w l C F) : ∀ e, e ∈ l → e.x ∈ C := by
  induction h with
  | nil => intro y hy; cases hy
  | @cons e r es C1 C2 F1 F2 h1 h2 h3 h4 h5 i2 i4 =>
    intro e' he
    rcases List.mem_cons.1 he with q | q
    · rw [q]; simp
    · simp [i4 e' q]
theorem Fo.len {K : El α} {w : World} {l : List (En α)} {C : List α} {F : List Nat} (h : Fo K w l C F) : l.length ≤ C.length := by
  induction h with
  | nil => exact Nat.le_refl _
  | @cons e r es C1 C2 F1 F2 h1 h2 h3 h4 h5 i2 i4 =>
    simp
    omega
theorem Fo.below_x {K : El α} {w : World} {e : En α} {C : List α} {F : List Nat} (h : Fo K w [e] C F) (y : α) (hy : y ∈ C) : e.x = y ∨ K.key e.x < K.key y := by
  obtain ⟨e', h1, h2⟩ := h.least_of y hy
  rw [List.mem_singleton.1 h1] at h2
  exact h2
/-- Blocks that there were, or new ones. -/
def Fresh (F' F : List Nat) (w : World) : Prop := ∀ b, b ∈ F' → b ∈ F ∨ w.heap.size ≤ b
theorem Grew.blks {K : El α} {w w' : World} {A A' : Option Addr} {n c c' : Nat} (h : Grew K w w' A n c A' c') : ∀ b, b ∈ blk A' → b ∈ blk A ∨ w.heap.size ≤ b := by
  rcases h.2.2 with ⟨_, rfl, _⟩ | ⟨_, g, rfl, h1, _⟩
  · exact fun b hb => Or.inl hb
  · intro b hb
    unfold blk at hb
    rw [List.mem_singleton.1 hb]
    exact Or.inr h1
theorem blk_nodup (A : Option Addr) : (blk A).Nodup := by cases A <;> simp [blk]
/-- A tree is laid onto a thing that is less. -/
theorem Fo.bear {K : El α} {w : World} {x : α} {A : Option Addr} {n c : Nat} {Ct Cr : List α} {Ft Fr : List Nat} {r : En α} (h : Fo K w [⟨x, A, n, c⟩] Ct Ft) (hr : Fo K w [r] Cr Fr) (hk : K.key x < K.key r.x) (nd : (Ft ++ Fr).Nodup) :
    ∃ es, Vw K w A n c es ∧ ∀ A' c' w', Vw K w' A' (n + 1) c' (es ++ [r]) → Grew K w w' A n c A' c' → ∃ F', Fo K w' [⟨x, A', n + 1, c'⟩] (Ct ++ Cr) F' ∧ Fresh F' (Ft ++ Fr) w := by
  obtain ⟨es, C1, F1, h1, h2, h3, rfl, rfl, h5⟩ := h.one
  refine ⟨es, h1, fun A' c' w' v g => ?_⟩
  obtain ⟨n1, n2, n3⟩ := List.nodup_append.1 h5
  obtain ⟨m1, m2, m3⟩ := List.nodup_append.1 nd
  have k1 : Fo K w' es C1 F1 := h2.keep g.1 (fun b hb hb' => n3 b hb' b hb rfl)
  have k2 : Fo K w' [r] Cr Fr := hr.keep g.1 (fun b hb hb' => m3 b (List.mem_append_left _ hb') b hb rfl)
  have k3 : Fo K w' (es ++ [r]) (C1 ++ Cr) (F1 ++ Fr) := k1.app k2 (List.nodup_append.2 ⟨n2, m2, fun a ha b hb => m3 a (List.mem_append_right _ ha) b hb⟩)
  refine ⟨blk A' ++ (F1 ++ Fr), ?_, ?_⟩
  · have := Fo.mk1 (e := ⟨x, A', n + 1, c'⟩) v k3 (fun y hy => by
      rcases List.mem_append.1 hy with q | q
      · exact h3 y q
      · rcases hr.below_x y q with q | q
        · rw [← q]; exact hk
        · exact Int.lt_trans hk q) (List.nodup_append.2 ⟨blk_nodup _, k3.nodup, fun a ha b hb => ?_⟩)
    · exact this
    · intro e
      subst e
      rcases g.blks a ha with q | q
      · rcases List.mem_append.1 hb with q' | q'
        · exact n3 a q a q' rfl
        · exact m3 a (List.mem_append_left _ q) a q' rfl
      · rcases List.mem_append.1 hb with q' | q'
        · have := h2.lt a q'; omega
        · have := hr.lt a q'; omega
  · intro b hb
    rcases List.mem_append.1 hb with q | q
    · rcases g.blks b q with q | q
      · exact Or.inl (by simp [q])
      · exact Or.inr q
    · rcases List.mem_append.1 q with q | q
      · exact Or.inl (by simp [q])
      · exact Or.inl (by simp [q])
/-- None is less than one behind it. -/
def Dn (K : El α) (l : List (En α)) : Prop := ∀ (i j : Nat) (a b : En α), i < j → l[i]? = some a → l[j]? = some b → K.key (En.x b) ≤ K.key (En.x a)
theorem Dn.take {K : El α} {l : List (En α)} (h : Dn K l) (k : Nat) : Dn K (l.take k) := fun i j a b hij ha hb => by
  rw [List.getElem?_take] at ha hb
  split at ha <;> split at hb <;> first | exact h i j a b hij ha hb | cases ha | cases hb
theorem Dn.snoc {K : El α} {l : List (En α)} {e : En α} (h : Dn K l) (hk : ∀ a, a ∈ l → K.key e.x ≤ K.key a.x) : Dn K (l ++ [e]) := fun i j a b hij ha hb => by
  have hj := (List.getElem?_eq_some_iff.1 hb).1
  rw [List.length_append] at hj
  have hj : j < l.length + 1 := hj
  rw [List.getElem?_append_left (by omega)] at ha
  by_cases q : j < l.length
  · rw [List.getElem?_append_left q] at hb
    exact h i j a b hij ha hb
  · rw [List.getElem?_append_right (by omega), show j - l.length = 0 by omega] at hb
    have hb : e = b := by simpa using hb
    rw [← hb]
    exact hk a (List.mem_of_getElem? ha)
theorem Dn.set {K : El α} {l : List (En α)} {e e' : En α} {i : Nat} (h : Dn K l) (he : l[i]? = some e) (hx : e'.x = e.x) : Dn K (l.set i e') := fun p q a b hpq ha hb => by
  have key : ∀ (k : Nat) (a : En α), (l.set i e')[k]? = some a → ∃ a', l[k]? = some a' ∧ a'.x = a.x := fun k a ha => by
    rw [List.getElem?_set] at ha
    split at ha
    · rename_i e1
      subst e1
      split at ha
      · injection ha with ha
        exact ⟨e, he, by rw [← ha, hx]⟩
      · cases ha
    · exact ⟨a, ha, rfl⟩
  obtain ⟨a', a1, a2⟩ := key p a ha
  obtain ⟨b', b1, b2⟩ := key q b hb
  rw [← a2, ← b2]
  exact h p q a' b' hpq a1 b1
/-- The last one is the least of all. -/
theorem Fo.least {K : El α} {w : World} {l : List (En α)} {C : List α} {F : List Nat} {e : En α} {i : Nat} (h : Fo K w l C F) (hd : Dn K l) (hi : i + 1 = l.length) (he : l[i]? = some e) (y : α) (hy : y ∈ C) : K.key e.x ≤ K.key y := by
  obtain ⟨e', h1, h2⟩ := h.least_of y hy
  obtain ⟨k, hk, hk'⟩ := List.mem_iff_getElem.1 h1
  have q : K.key e.x ≤ K.key e'.x := by
    by_cases hki : k = i
    · subst hki
      rw [List.getElem?_eq_getElem hk, hk'] at he
      injection he with he
      rw [he]; exact Int.le_refl _
    · exact hd k i e' e (by omega) (by rw [List.getElem?_eq_getElem hk, hk']) he
  rcases h2 with h2 | h2
  · rw [← h2]; exact q
  · omega
theorem split_at (l : List (En α)) (i : Nat) (e : En α) (he : l[i]? = some e) : l = l.take i ++ ([e] ++ l.drop (i + 1)) := by
  have hi := (List.getElem?_eq_some_iff.1 he).1
  have : l[i] = e := (List.getElem?_eq_some_iff.1 he).2
  rw [← this]
  simp
theorem set_at (l : List (En α)) (i : Nat) (e e' : En α) (he : l[i]? = some e) : l.set i e' = l.take i ++ ([e'] ++ l.drop (i + 1)) := by
  have hi := (List.getElem?_eq_some_iff.1 he).1
  rw [List.set_eq_take_append_cons_drop, if_pos hi]
  rfl
/-- One tree of a forest bears another one. -/
theorem Fo.onto {K : El α} {w : World} {l : List (En α)} {C Ct : List α} {F Ft : List Nat} {e r : En α} {i : Nat} (h : Fo K w l C F) (he : l[i]? = some e) (hr : Fo K w [r] Ct Ft) (hk : K.key e.x < K.key r.x) (nd : (F ++ Ft).Nodup) :
    ∃ es, Vw K w e.A e.n e.c es ∧ (∀ b, b ∈ blk e.A → b ∈ F) ∧ es.length ≤ C.length ∧ ∀ A' c' w' w'', Vw K w' A' (e.n + 1) c' (es ++ [r]) → Grew K w w' e.A e.n e.c A' c' → (∀ b, b ∈ F ++ (Ft ++ blk A') → w''.heap[b]? = w'.heap[b]?) →
      ∃ C' F', Fo K w'' (l.set i ⟨e.x, A', e.n + 1, c'⟩) C' F' ∧ C'.Perm (C ++ Ct) ∧ Fresh F' (F ++ Ft) w := by
  have h0 := h
  rw [split_at l i e he] at h0
  obtain ⟨Ca, Cr, Fa, Fr, rfl, rfl, ha, hr'⟩ := Fo.split _ _ _ _ h0
  obtain ⟨Ce, Cb, Fe, Fb, rfl, rfl, hE, hb⟩ := Fo.split _ _ _ _ hr'
  obtain ⟨n1, n2, n3⟩ := List.nodup_append.1 nd
  obtain ⟨n4, n5, n6⟩ := List.nodup_append.1 n1
  obtain ⟨n7, n8, n9⟩ := List.nodup_append.1 n5
  have nE : (Fe ++ Ft).Nodup := List.nodup_append.2 ⟨n7, n2, fun a ha b hb => n3 a (by simp [ha]) b hb⟩
  obtain ⟨es, C1, F1, p1, p2, p3, p4, p5, p6⟩ := hE.one
  have hE' : Fo K w [⟨e.x, e.A, e.n, e.c⟩] Ce Fe := hE
  have hA : ∀ b, b ∈ blk e.A → b ∈ Fe := fun b hb => by rw [p5]; simp [hb]
  refine ⟨es, p1, fun b hb => by simp [hA b hb], by have := p2.len; rw [p4]; simp; omega, fun A' c' w' w'' v g hw => ?_⟩
  have k1 : Fo K w' es C1 F1 := p2.keep g.1 (fun b hb hb' => (List.nodup_append.1 p6).2.2 b hb' b hb rfl)
  have k2 : Fo K w' [r] Ct Ft := hr.keep g.1 (fun b hb hb' => n3 b (by simp [hA b hb']) b hb rfl)
  have k3 : Fo K w' (es ++ [r]) (C1 ++ Ct) (F1 ++ Ft) := k1.app k2 (List.nodup_append.2 ⟨(List.nodup_append.1 p6).2.1, n2, fun a ha b hb => n3 a (by simp [p5, ha]) b hb⟩)
  have d0 : (blk A' ++ (F1 ++ Ft)).Nodup := List.nodup_append.2 ⟨blk_nodup _, k3.nodup, fun a ha b hb e1 => by
    subst e1
    rcases g.blks a ha with q | q
    · rcases List.mem_append.1 hb with q' | q'
      · exact (List.nodup_append.1 p6).2.2 a q a q' rfl
      · exact n3 a (by simp [hA a q]) a q' rfl
    · rcases List.mem_append.1 hb with q' | q'
      · have := p2.lt a q'; omega
      · have := hr.lt a q'; omega⟩
  have k4 : Fo K w' [⟨e.x, A', e.n + 1, c'⟩] (e.x :: (C1 ++ Ct)) (blk A' ++ (F1 ++ Ft)) := Fo.mk1 (e := ⟨e.x, A', e.n + 1, c'⟩) v k3 (fun y hy => by
      rcases List.mem_append.1 hy with q | q
      · exact p3 y q
      · rcases hr.below_x y q with q | q
        · rw [← q]; exact hk
        · exact Int.lt_trans hk q) d0
  have fr : Fresh (blk A' ++ (F1 ++ Ft)) (Fe ++ Ft) w := by
    intro b hb
    rcases List.mem_append.1 hb with q | q
    · rcases g.blks b q with q | q
      · exact Or.inl (by simp [hA b q])
      · exact Or.inr q
    · rcases List.mem_append.1 q with q | q
      · exact Or.inl (by simp [p5, q])
      · exact Or.inl (by simp [q])
  have ka : Fo K w'' (l.take i) Ca Fa := (ha.keep g.1 (fun b hb hb' => n6 b hb b (by simp [hA b hb']) rfl)).same fun b hb => hw b (by simp [hb])
  have kb : Fo K w'' (l.drop (i + 1)) Cb Fb := (hb.keep g.1 (fun b hb hb' => n9 b (hA b hb') b hb rfl)).same fun b hb => hw b (by simp [hb])
  have ke : Fo K w'' [⟨e.x, A', e.n + 1, c'⟩] (e.x :: (C1 ++ Ct)) (blk A' ++ (F1 ++ Ft)) := k4.same fun b hb => hw b (by
    rcases List.mem_append.1 hb with q | q
    · simp [q]
    · rcases List.mem_append.1 q with q | q
      · simp [p5, q]
      · simp [q])
  have d1 : (blk A' ++ (F1 ++ Ft) ++ Fb).Nodup := List.nodup_append.2 ⟨d0, n8, fun a ha' b hb' e1 => by
    subst e1
    rcases fr a ha' with q | q
    · rcases List.mem_append.1 q with q | q
      · exact n9 a q a hb' rfl
      · exact n3 a (by simp [hb']) a q rfl
    · have := hb.lt a hb'; omega⟩
  have d2 : (Fa ++ (blk A' ++ (F1 ++ Ft) ++ Fb)).Nodup := List.nodup_append.2 ⟨n4, d1, fun a ha' b hb' e1 => by
    subst e1
    rcases List.mem_append.1 hb' with hb' | hb'
    · rcases fr a hb' with q | q
      · rcases List.mem_append.1 q with q | q
        · exact n6 a ha' a (by simp [q]) rfl
        · exact n3 a (by simp [ha']) a q rfl
      · have := ha.lt a ha'; omega
    · exact n6 a ha' a (by simp [hb']) rfl⟩
  refine ⟨_, _, by rw [set_at l i e _ he]; exact ka.app (ke.app kb d1) d2, ?_, ?_⟩
  · rw [p4]
    have e1 : Ca ++ (e.x :: (C1 ++ Ct) ++ Cb) = Ca ++ ((e.x :: C1) ++ (Ct ++ Cb)) := by simp
    have e2 : Ca ++ (e.x :: C1 ++ Cb) ++ Ct = Ca ++ ((e.x :: C1) ++ (Cb ++ Ct)) := by simp
    rw [e1, e2]
    exact List.Perm.append_left _ (List.Perm.append_left _ List.perm_append_comm)
  · intro b hb'
    rcases List.mem_append.1 hb' with q | q
    · exact Or.inl (by simp [q])
    · rcases List.mem_append.1 q with q | q
      · rcases fr b q with q | q
        · rcases List.mem_append.1 q with q | q
          · exact Or.inl (by simp [q])
          · exact Or.inl (by simp [q])
        · exact Or.inr q
      · exact Or.inl (by simp [q])
/-- An append of something, in whose place the thing itself is laid then. -/
theorem Grew.fill {K : El α} (ok : ElOk K) {w w' : World} {A : Option Addr} {n c g o c' : Nat} {es : List (En α)} {e0 : En α} (h : Grew K w w' A n c (some ⟨g, o, none⟩) c') (v : Vw K w' (some ⟨g, o, none⟩) (n + 1) c' (es ++ [e0])) (he : es.length = n) (r : En α) :
    Vw K (w'.setCells g (o + n * (K.z + 1)) (En.v K r)) (some ⟨g, o, none⟩) (n + 1) c' (es ++ [r]) ∧ Grew K w (w'.setCells g (o + n * (K.z + 1)) (En.v K r)) A n c (some ⟨g, o, none⟩) c' := by
  obtain ⟨p1, p2⟩ := v.put ok (i := n) (by omega) (by have := v.cap; omega) r
  rw [Nat.max_self, List.take_append_of_le_length (by omega), List.take_of_length_le (by omega), List.drop_of_length_le (by simp; omega)] at p1
  have hk := setCells_keep g (En.v K r) (o + n * (K.z + 1)) w'
  have hsub : Sub (· ∈ [g]) (· ∈ blk A) w := fun b hb => by
    rw [List.mem_singleton.1 hb]
    exact h.blks g (by simp [blk])
  refine ⟨p1, h.1.trans hsub hk, ?_, ?_⟩
  · rcases h.2.2 with ⟨h1, rfl, rfl⟩ | ⟨h1, g', h2, h3, h4, h5⟩
    · exact h.2.1.trans p2
    · intro g2 o2 e2
      injection h2 with h2
      injection h2 with h2 h6
      subst h2
      obtain ⟨c1, c2, a1, a2, a3, a4⟩ := h.2.1 g2 o2 e2
      refine ⟨c1, c2, a1, ?_, a3, a4⟩
      rw [setCells_heap g g2 (by have := heap_lt a1; omega)]
      exact a2
  · rcases h.2.2 with h1 | ⟨h1, g', h2, h3, h4, h5⟩
    · exact Or.inl h1
    · refine Or.inr ⟨h1, g', h2, h3, by rw [setCells_size]; exact h4, ?_⟩
      injection h2 with h2
      injection h2 with h2 h6
      subst h2
      exact (hk.below (B := w.heap.size) (fun k hk => by rw [List.mem_singleton.1 hk]; exact h3) h5 h5.size)
theorem setCell_comm (w : World) (a b : Addr) (u v : Value) (h : a.block ≠ b.block) : (w.setCell a u).setCell b v = (w.setCell b v).setCell a u := by
  unfold World.setCell
  congr 1
  apply Array.ext_getElem?
  intro k
  simp only [Array.getElem?_modify]
  by_cases h1 : b.block = k
  · by_cases h2 : a.block = k
    · exact absurd (h2.trans h1.symm) h
    · simp [h1, h2]
  · by_cases h2 : a.block = k
    · simp [h1, h2]
    · simp [h1, h2]
theorem setCells_comm (a : Addr) (u : Value) (g : Nat) (h : a.block ≠ g) : ∀ (vs : List Value) (o : Nat) (w : World), (w.setCell a u).setCells g o vs = (w.setCells g o vs).setCell a u
  | [], _, _ => rfl
  | v :: r, o, w => by
    rw [World.setCells, World.setCells, setCell_comm w a ⟨g, o, none⟩ u v h, setCells_comm a u g h r (o + 1)]
/-- What lay leaves. -/
def Laid (K : El α) (w : World) (A : Option Addr) (n c : Nat) (C : List α) (F : List Nat) (Ct : List α) (Ft : List Nat) (e : Ending) (w' : World) : Prop :=
  ∃ (A' : Option Addr) (n' c' : Nat) (l' : List (En α)) (C' : List α) (F' : List Nat), e = .returned (.slice A' n' c') ∧ Vw K w' A' n' c' l' ∧ Fo K w' l' C' F' ∧ Dn K l' ∧ C'.Perm (C ++ Ct) ∧ (blk A' ++ F').Nodup ∧ Fresh F' (F ++ Ft) w ∧ (∀ b, b ∈ blk A' → b ∈ blk A ∨ w.heap.size ≤ b) ∧ (n + 1 ≤ c → A' = A ∧ c' = c) ∧ n' ≤ n + 1 ∧ Keep (· ∈ blk A ++ (F ++ Ft)) w w' ∧ Out K w w' A (n + 1)
theorem found_fin {K : El α} (ok : ElOk K) {w W w3 : World} {g o n c i nn cn g' o' c' : Nat} {l es : List (En α)} {C Ct : List α} {F Ft : List Nat} {e e0 t : En α} {An : Option Addr} (bW : Below w.heap.size w W) (hv : Vw K w (some ⟨g, o, none⟩) n c l) (he : l[i]? = some e) (hd : Dn K l) (nd : (blk (some ⟨g, o, none⟩) ++ (F ++ Ft)).Nodup) (hlt : ∀ b, b ∈ F ++ Ft → b < w.heap.size) (AF : ∀ b, b ∈ blk An → b ∈ F) (EL : es.length = nn)
    (ONT : ∀ A' c' w' w'', Vw K w' A' (nn + 1) c' (es ++ [t]) → Grew K W w' An nn cn A' c' → (∀ b, b ∈ F ++ (Ft ++ blk A') → w''.heap[b]? = w'.heap[b]?) → ∃ C' F', Fo K w'' (l.set i ⟨e.x, A', nn + 1, c'⟩) C' F' ∧ C'.Perm (C ++ Ct) ∧ Fresh F' (F ++ Ft) W)
    (v3 : Vw K w3 (some ⟨g', o', none⟩) (nn + 1) c' (es ++ [e0])) (g3 : Grew K W w3 An nn cn (some ⟨g', o', none⟩) c') :
    Laid K w (some ⟨g, o, none⟩) n c C F Ct Ft (.returned (.slice (some ⟨g, o, none⟩) n c)) ((w3.setCells g' (o' + nn * (K.z + 1)) (En.v K t)).setCell ⟨g, o + i * (K.z + 1) + K.z, none⟩ (.slice (some ⟨g', o', none⟩) (nn + 1) c')) := by
  obtain ⟨v4, g4⟩ := g3.fill ok v3 EL t
  obtain ⟨d1, d2, d3⟩ := List.nodup_append.1 nd
  have hg : g < w.heap.size := hv.lt g (by simp [blk])
  have hgF : g ∉ F ++ Ft := fun q => d3 g (by simp [blk]) g q rfl
  have hgA : g ∉ blk An := fun q => hgF (by simp [AF g q])
  have hgg : g ≠ g' := fun q => by
    rcases g3.blks g' (by simp [blk]) with q2 | q2
    · exact hgA (by rw [q]; exact q2)
    · have := bW.size; omega
  have v1 : Vw K (w3.setCells g' (o' + nn * (K.z + 1)) (En.v K t)) (some ⟨g, o, none⟩) n c l := (hv.below bW).same fun b hb => by
    have hb : b = g := by simpa [blk] using hb
    subst hb
    exact g4.1.block b (by have := bW.size; omega) hgA
  obtain ⟨v5, o5⟩ := v1.turn ok he (some ⟨g', o', none⟩) (nn + 1) c'
  have hfar : ∀ (w : World) (u : Value) (b : Nat), b ≠ g → (w.setCell ⟨g, o + i * (K.z + 1) + K.z, none⟩ u).heap[b]? = w.heap[b]? := fun w u b hb => heap_setCell_other w _ b u hb
  obtain ⟨C', F', q1, q2, q3⟩ := ONT _ c' _ ((w3.setCells g' (o' + nn * (K.z + 1)) (En.v K t)).setCell ⟨g, o + i * (K.z + 1) + K.z, none⟩ (.slice (some ⟨g', o', none⟩) (nn + 1) c')) v4 g4 (fun b hb => hfar _ _ b (fun e1 => by
    subst e1
    rcases List.mem_append.1 hb with q | q
    · exact hgF (by simp [q])
    · rcases List.mem_append.1 q with q | q
      · exact hgF (by simp [q])
      · exact hgg (by simpa [blk] using q)))
  have kW : Keep (· ∈ blk (some ⟨g, o, none⟩) ++ (F ++ Ft)) w (w3.setCells g' (o' + nn * (K.z + 1)) (En.v K t)) := (Keep.of_below bW).trans (F' := (· ∈ blk An)) (fun b hb => Or.inl (by have := AF b hb; simp [this])) g4.1
  refine ⟨some ⟨g, o, none⟩, n, c, _, C', F', rfl, v5, q1, hd.set he rfl, q2, ?_, ?_, fun b hb => Or.inl hb, fun _ => ⟨rfl, rfl⟩, by omega, ?_, ?_⟩
  · refine List.nodup_append.2 ⟨blk_nodup _, q1.nodup, fun a ha b hb e1 => ?_⟩
    have ha : a = g := by simpa [blk] using ha
    subst e1 ha
    rcases q3 a hb with q | q
    · exact hgF q
    · have := bW.size; omega
  · intro b hb
    rcases q3 b hb with q | q
    · exact Or.inl q
    · exact Or.inr (by have := bW.size; omega)
  · refine kW.trans (F' := (· = g)) (fun b hb => Or.inl (by subst hb; simp [blk])) ⟨rfl, rfl, rfl, ?_, fun k hk hn => hfar _ _ k hn⟩
    simp [World.setCell]
  · refine Out.trans (Out.of_same (hv) (fun b hb => ?_)) (o5.mono (by omega))
    have hb : b = g := by simpa [blk] using hb
    subst hb
    rw [g4.1.block b (by have := bW.size; omega) hgA]
    exact bW.block b hg
end Go.Proofs.Ytkgjbmlgbfejlaa
