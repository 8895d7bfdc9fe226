/-
  What lay has at hand as it takes trees off a row's end.
-/
import Derived.Test.YtkgjbmlgbfejlaaHc
import Derived.Deep.Draws
namespace Go.Proofs.Ytkgjbmlgbfejlaa
set_option linter.unusedVariables false
set_option linter.unusedSimpArgs false
open Go.RowKit
variable {α : Type}

theorem belowN (w : World) (n : Nat) : Below w.heap.size w (w.drewN n) := ⟨rfl, rfl, rfl, Nat.le_refl _, fun _ _ => rfl⟩
theorem belowN' {B : Nat} {a w : World} (h : Below B a w) (n : Nat) : Below B a (w.drewN n) := h.trans ⟨rfl, rfl, rfl, Nat.le_refl _, fun _ _ => rfl⟩
theorem arr_ne {w : World} {b : Nat} {T T' : TypeId} {vs : List Value} {cur : Array Value} (h : Arr w b T vs) (h' : w.heap[b]? = some (.cells cur T' (0, 0))) (hne : T ≠ T') : False := by
  unfold Arr at h
  rw [h] at h'
  injection h' with h'
  injection h' with _ h'
  exact hne h'
theorem Arr.keep {F : Nat → Prop} {w w' : World} {b : Nat} {T : TypeId} {vs : List Value} (h : Arr w b T vs) (k : Keep F w w') (hn : ¬ F b) : Arr w' b T vs := by
  have hl := Arr.lt h
  unfold Arr at *
  rw [k.block b hl hn]
  exact h
structure LayS (K : El α) (w : World) (bt : Nat) (A : Option Addr) (n c : Nat) (l : List (En α)) (C : List α) (F : List Nat) (Ct : List α) (Ft : List Nat) (x : α) (wr : World) (m : Nat) (A' : Option Addr) (n' c' : Nat) : Prop where
  box : Arr wr bt K.T (En.v K ⟨x, A', n', c'⟩)
  rest : ∃ Ct' Ft' Cm Fm, Fo K wr [⟨x, A', n', c'⟩] Ct' Ft' ∧ Fo K wr (l.take m) Cm Fm ∧ (Fm ++ Ft').Nodup ∧ (Cm ++ Ct').Perm (C ++ Ct) ∧ ∀ b, b ∈ Fm ++ Ft' → b ∈ F ++ Ft ∨ bt < b
  row : Vw K wr A n c l
  keep : Keep (· ∈ F ++ Ft) w wr
theorem LayS.below {K : El α} {w wr W : World} {bt n c m n' c' : Nat} {A A' : Option Addr} {l : List (En α)} {C Ct : List α} {F Ft : List Nat} {x : α} (h : LayS K w bt A n c l C F Ct Ft x wr m A' n' c') (b : Below wr.heap.size wr W) : LayS K w bt A n c l C F Ct Ft x W m A' n' c' := by
  obtain ⟨Ct', Ft', Cm, Fm, h1, h2, h3, h4, h5⟩ := h.rest
  exact ⟨Arr.below h.box b, ⟨Ct', Ft', Cm, Fm, h1.older b, h2.older b, h3, h4, h5⟩, h.row.below b, h.keep.trans (F' := fun _ => False) (fun _ q => q.elim) ⟨b.os, b.tape, b.output, b.size, fun k hk _ => b.block k hk⟩⟩
theorem Arr.setz {K : El α} (ok : ElOk K) {w : World} {bt : Nat} {x : α} {A' : Option Addr} {n' c' : Nat} (h : Arr w bt K.T (En.v K ⟨x, A', n', c'⟩)) (A2 : Option Addr) (n2 c2 : Nat) : Arr (w.setCell ⟨bt, K.z, none⟩ (.slice A2 n2 c2)) bt K.T (En.v K ⟨x, A2, n2, c2⟩) := by
  unfold Arr at *
  rw [heap_setCell_same w bt K.z _ K.T _ h]
  congr 2
  unfold En.v
  apply Array.ext'
  rw [Array.toList_setIfInBounds]
  simp only
  rw [List.set_append_right _ _ (by rw [ok.len]; exact Nat.le_refl _), ok.len, Nat.sub_self]
  rfl
theorem LayS.start {K : El α} {w w1 : World} {bt n c nt ct : Nat} {A At : Option Addr} {l : List (En α)} {C Ct : List α} {F Ft : List Nat} {x : α} (hb : bt = w.heap.size) (b : Below w.heap.size w w1) (box : Arr w1 bt K.T (En.v K ⟨x, At, nt, ct⟩)) (hv : Vw K w A n c l) (hf : Fo K w l C F) (ht : Fo K w [⟨x, At, nt, ct⟩] Ct Ft) (nd : (blk A ++ (F ++ Ft)).Nodup) : LayS K w bt A n c l C F Ct Ft x w1 n At nt ct := by
  refine ⟨box, ⟨Ct, Ft, C, F, ht.older b, ?_, (List.nodup_append.1 nd).2.1, List.Perm.refl _, fun b hb => Or.inl hb⟩, hv.below b, Keep.of_below b⟩
  rw [List.take_of_length_le (by rw [hv.len]; exact Nat.le_refl _)]
  exact hf.older b
theorem LayS.step {K : El α} (ok : ElOk K) {w W : World} {bt n c m n' c' : Nat} {A A' : Option Addr} {l : List (En α)} {C Ct : List α} {F Ft : List Nat} {x : α} {e : En α} (h : LayS K w bt A n c l C F Ct Ft x W (m + 1) A' n' c') (hb : bt = w.heap.size) (hlt : ∀ b, b ∈ F ++ Ft → b < w.heap.size) (hA : ∀ b, b ∈ blk A → b < w.heap.size ∧ b ∉ F ++ Ft) (he : l[m]? = some e) (hk : K.key x < K.key e.x) :
    n' + 1 ≤ C.length + Ct.length ∧ (∀ b, b ∈ blk A' → b ≠ bt ∧ b ∉ blk A) ∧ ∃ es, Vw K W A' n' c' es ∧ ∀ A2 c2 w3, Vw K w3 A2 (n' + 1) c2 (es ++ [e]) → Grew K W w3 A' n' c' A2 c2 → LayS K w bt A n c l C F Ct Ft x (w3.setCell ⟨bt, K.z, none⟩ (.slice A2 (n' + 1) c2)) m A2 (n' + 1) c2 := by
  obtain ⟨Ct', Ft', Cm, Fm, h1, h2, h3, h4, h5⟩ := h.rest
  have hm := (List.getElem?_eq_some_iff.1 he).1
  have et : l.take (m + 1) = l.take m ++ [e] := by
    rw [List.take_succ_eq_append_getElem hm]
    congr 2
    exact (List.getElem?_eq_some_iff.1 he).2
  rw [et] at h2
  obtain ⟨Ca, Cr, Fa, Fr, rfl, rfl, fa, fr⟩ := Fo.split _ _ _ _ h2
  obtain ⟨n1, n2, n3⟩ := List.nodup_append.1 h3
  obtain ⟨n4, n5, n6⟩ := List.nodup_append.1 n1
  have nd : (Ft' ++ Fr).Nodup := List.nodup_append.2 ⟨n2, n5, fun a ha b hb e1 => n3 b (by simp [hb]) a ha e1.symm⟩
  obtain ⟨es, p1, p2⟩ := Fo.bear h1 fr hk nd
  have hAF : ∀ b, b ∈ blk A' → b ∈ Ft' := by
    obtain ⟨_, C1, F1, _, _, _, _, q5, _⟩ := h1.one
    intro b hb; rw [q5]; simp [hb]
  have hold : ∀ b, b ∈ (Fa ++ Fr) ++ Ft' → b ≠ bt ∧ b ∉ blk A := fun b hb' => by
    rcases h5 b hb' with q | q
    · exact ⟨by have := hlt b q; omega, fun q2 => (hA b q2).2 q⟩
    · exact ⟨by omega, fun q2 => by have := (hA b q2).1; omega⟩
  refine ⟨?_, fun b hb' => hold b (by simp [hAF b hb']), es, p1, fun A2 c2 w3 v g => ?_⟩
  · have q1 := h4.length_eq
    obtain ⟨es', C1, F1, r1, r2, r3, r4, r5, r6⟩ := h1.one
    have q2 := r2.len
    have q3 : es'.length = n' := r1.len
    have q4 := fr.len
    simp at q1 q4
    rw [r4] at q1
    simp at q1
    omega
  obtain ⟨F2, f2, f3⟩ := p2 A2 c2 w3 v g
  have hbt : bt < W.heap.size := Arr.lt h.box
  have hbA : bt ∉ blk A' := fun q => (hold bt (by simp [hAF bt q])).1 rfl
  have hF2 : ∀ b, b ∈ F2 → b ≠ bt := fun b hb' => by
    rcases f3 b hb' with q | q
    · exact (hold b (by rcases List.mem_append.1 q with q | q <;> simp [q])).1
    · omega
  have hfar : ∀ (u : Value) (b : Nat), b ≠ bt → (w3.setCell ⟨bt, K.z, none⟩ u).heap[b]? = w3.heap[b]? := fun u b hb' => heap_setCell_other w3 _ b u hb'
  have fa3 : Fo K w3 (l.take m) Ca Fa := fa.keep g.1 (fun b hb' hb2 => n3 b (by simp [hb']) b (hAF b hb2) rfl)
  refine ⟨?_, ⟨Ct' ++ Cr, F2, Ca, Fa, f2.same (fun b hb' => hfar _ b (hF2 b hb')), fa3.same (fun b hb' => hfar _ b (hold b (by simp [hb'])).1), ?_, ?_, ?_⟩, ?_, ?_⟩
  · refine Arr.setz ok (A' := A') (n' := n') (c' := c') ?_ _ _ _
    unfold Arr
    rw [g.1.block bt hbt hbA]
    exact h.box
  · refine List.nodup_append.2 ⟨n4, f2.nodup, fun a ha b hb' e1 => ?_⟩
    subst e1
    rcases f3 a hb' with q | q
    · rcases List.mem_append.1 q with q | q
      · exact n3 a (by simp [ha]) a q rfl
      · exact n6 a ha a q rfl
    · have := fa.lt a ha; omega
  · refine List.Perm.trans ?_ h4
    have e1 : Ca ++ (Ct' ++ Cr) = Ca ++ (Ct' ++ Cr) := rfl
    rw [List.append_assoc]
    exact List.Perm.append_left _ List.perm_append_comm
  · intro b hb'
    rcases List.mem_append.1 hb' with q | q
    · exact h5 b (by simp [q])
    · rcases f3 b q with q | q
      · exact h5 b (by rcases List.mem_append.1 q with q | q <;> simp [q])
      · exact Or.inr (by omega)
  · refine (h.row.same (w' := w3) fun b hb' => g.1.block b (h.row.lt b hb') (fun q => (hold b (by simp [hAF b q])).2 hb')).same fun b hb' => hfar _ b ?_
    have := (hA b hb').1
    omega
  · have k1 : Keep (· ∈ F ++ Ft) w w3 := ⟨g.1.os.trans h.keep.os, g.1.tape.trans h.keep.tape, g.1.output.trans h.keep.output, Nat.le_trans h.keep.size g.1.size, fun k hk hn => by
      rw [g.1.block k (by have := h.keep.size; omega) (fun q => ?_), h.keep.block k hk hn]
      rcases h5 k (by simp [hAF k q]) with q2 | q2
      · exact hn q2
      · omega⟩
    refine ⟨k1.os, k1.tape, k1.output, ?_, fun k hk hn => by rw [hfar _ k (by omega)]; exact k1.block k hk hn⟩
    have := k1.size
    simpa [World.setCell] using this
theorem LayS.fin {K : El α} {w W wd W' wf : World} {bt n c m n' c' c2 : Nat} {A A' A2 : Option Addr} {l : List (En α)} {C Ct : List α} {F Ft : List Nat} {x : α} (h : LayS K w bt A n c l C F Ct Ft x W m A' n' c') (hb : bt = w.heap.size) (hlt : ∀ b, b ∈ F ++ Ft → b < w.heap.size) (hA : ∀ b, b ∈ blk A → b < w.heap.size ∧ b ∉ F ++ Ft) (hm : m ≤ n) (hd : Dn K l) (hk : ∀ (j : Nat) (e : En α), j < n → l[j]? = some e → K.key x ≤ K.key e.x) (hv : Vw K w A n c l)
    (kd : Keep (· ∈ blk A) W wd) (od : Out K W wd A n) (b' : Below wd.heap.size wd W') (v : Vw K wf A2 (m + 1) c2 (l.take m ++ [⟨x, A', n', c'⟩])) (g : Grew K W' wf A m c A2 c2) : Laid K w A n c C F Ct Ft (.returned (.slice A2 (m + 1) c2)) wf := by
  obtain ⟨Ct', Ft', Cm, Fm, h1, h2, h3, h4, h5⟩ := h.rest
  obtain ⟨n1, n2, n3⟩ := List.nodup_append.1 h3
  have hold : ∀ b, b ∈ Fm ++ Ft' → b ∉ blk A := fun b hb' => by
    rcases h5 b hb' with q | q
    · exact fun q2 => (hA b q2).2 q
    · exact fun q2 => by have := (hA b q2).1; omega
  have hW : w.heap.size ≤ W.heap.size := h.keep.size
  have hWd := kd.size
  have hW' := b'.size
  have k1 : Keep (· ∈ blk A) W wf := (kd.trans (Sub.refl _ _) (Keep.of_below b')).trans (Sub.refl _ _) g.1
  have f1 : Fo K wf [⟨x, A', n', c'⟩] Ct' Ft' := h1.keep k1 (fun b hb' => hold b (by simp [hb']))
  have f2 : Fo K wf (l.take m) Cm Fm := h2.keep k1 (fun b hb' => hold b (by simp [hb']))
  have f3 := f2.app f1 h3
  refine ⟨A2, m + 1, c2, _, _, _, rfl, v, f3, ?_, h4, ?_, ?_, ?_, fun hc => ?_, by omega, ?_, ?_⟩
  · refine Dn.snoc (hd.take m) (fun a ha => ?_)
    obtain ⟨j, hj, hj'⟩ := List.mem_iff_getElem.1 ha
    rw [List.length_take, hv.len] at hj
    refine hk j a (by omega) ?_
    rw [List.getElem_take] at hj'
    rw [← hj', List.getElem?_eq_getElem]
  · refine List.nodup_append.2 ⟨blk_nodup _, h3, fun a ha b hb' e1 => ?_⟩
    subst e1
    rcases g.blks a ha with q | q
    · exact hold a hb' q
    · have : a < W.heap.size := by
        rcases List.mem_append.1 hb' with q | q
        · exact h2.lt a q
        · exact h1.lt a q
      omega
  · intro b hb'
    rcases h5 b hb' with q | q
    · exact Or.inl q
    · exact Or.inr (by omega)
  · intro b hb'
    rcases g.blks b hb' with q | q
    · exact Or.inl q
    · exact Or.inr (by omega)
  · rcases g.2.2 with ⟨_, q2, q3⟩ | ⟨q1, _⟩
    · exact ⟨q2, q3⟩
    · omega
  · refine ⟨k1.os.trans h.keep.os, k1.tape.trans h.keep.tape, k1.output.trans h.keep.output, Nat.le_trans hW k1.size, fun k hk hn => ?_⟩
    rw [k1.block k (by omega) (fun q => hn (by simp [q])), h.keep.block k hk (fun q => hn (by rcases List.mem_append.1 q with q | q <;> simp [q]))]
  · have o0 : Out K w W A n := Out.of_same hv (fun b hb' => h.keep.block b (hA b hb').1 (hA b hb').2)
    have o1 : Out K wd W' A n := by
      intro g2 o2 e2
      obtain ⟨q1, q2, q3, q4, q5, q6⟩ := od g2 o2 e2
      exact ⟨q2, q2, q4, by rw [b'.block g2 (heap_lt q4)]; exact q4, rfl, fun _ _ => rfl⟩
    exact (((o0.trans od).trans o1).mono (by omega)).trans (g.2.1.mono (by omega))
end Go.Proofs.Ytkgjbmlgbfejlaa
