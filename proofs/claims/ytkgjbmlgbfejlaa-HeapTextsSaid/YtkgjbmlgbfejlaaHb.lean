/-
  A heap's things, and what Push and Pop have at hand.
-/
import Derived.Test.YtkgjbmlgbfejlaaHt
namespace Go.Proofs.Ytkgjbmlgbfejlaa
set_option linter.unusedVariables false
set_option linter.unusedSimpArgs false
open Go.RowKit
variable {α : Type}

/-- A row of trees that bear the things C, in the blocks G. -/
def Bag (K : El α) (w : World) (A : Option Addr) (n c : Nat) (C : List α) (G : List Nat) : Prop := ∃ l F, G = blk A ++ F ∧ Vw K w A n c l ∧ Fo K w l C F ∧ Dn K l ∧ (blk A ++ F).Nodup
theorem Bag.kind {K : El α} {w : World} {A : Option Addr} {n c : Nat} {C : List α} {G : List Nat} (h : Bag K w A n c C G) (b : Nat) (hb : b ∈ G) : ∃ cur, w.heap[b]? = some (.cells cur K.T (0, 0)) := by
  obtain ⟨l, F, rfl, h1, h2, h3, h4⟩ := h
  rcases List.mem_append.1 hb with q | q
  · exact h1.kind b q
  · exact h2.kind b q
theorem Bag.lt {K : El α} {w : World} {A : Option Addr} {n c : Nat} {C : List α} {G : List Nat} (h : Bag K w A n c C G) (b : Nat) (hb : b ∈ G) : b < w.heap.size := by
  obtain ⟨cur, q⟩ := h.kind b hb; exact heap_lt q
theorem Bag.same {K : El α} {w w' : World} {A : Option Addr} {n c : Nat} {C : List α} {G : List Nat} (h : Bag K w A n c C G) (k : ∀ b, b ∈ G → w'.heap[b]? = w.heap[b]?) : Bag K w' A n c C G := by
  obtain ⟨l, F, rfl, h1, h2, h3, h4⟩ := h
  exact ⟨l, F, rfl, h1.same fun b hb => k b (by simp [hb]), h2.same fun b hb => k b (by simp [hb]), h3, h4⟩
theorem Bag.below {K : El α} {w w' : World} {A : Option Addr} {n c : Nat} {C : List α} {G : List Nat} (h : Bag K w A n c C G) (k : Below w.heap.size w w') : Bag K w' A n c C G := h.same fun b hb => k.block b (h.lt b hb)
theorem Bag.nil (K : El α) (w : World) : Bag K w none 0 0 [] [] := ⟨[], [], rfl, Vw.nil K w, .nil, fun i j a b _ ha _ => by simp at ha, List.nodup_nil⟩
theorem Bag.nodup {K : El α} {w : World} {A : Option Addr} {n c : Nat} {C : List α} {G : List Nat} (h : Bag K w A n c C G) : G.Nodup := by
  obtain ⟨l, F, rfl, h1, h2, h3, h4⟩ := h; exact h4
theorem Bag.zero {K : El α} {w : World} {A : Option Addr} {n c : Nat} {C : List α} {G : List Nat} (h : Bag K w A n c C G) : n = 0 ↔ C = [] := by
  obtain ⟨l, F, rfl, h1, h2, h3, h4⟩ := h
  have hl := h1.len
  constructor
  · intro h0
    have e : l = [] := List.eq_nil_of_length_eq_zero (by omega)
    subst e
    cases h2
    rfl
  · intro h0
    have := h2.len
    rw [h0] at this
    simp at this
    rw [this] at hl
    exact hl.symm
theorem Bag.small {K : El α} {w : World} {A : Option Addr} {n c : Nat} {C : List α} {G : List Nat} (h : Bag K w A n c C G) : n ≤ C.length := by
  obtain ⟨l, F, rfl, h1, h2, h3, h4⟩ := h
  rw [← h1.len]; exact h2.len
theorem Bag.laid {K : El α} {w w' : World} {A : Option Addr} {n c : Nat} {C Ct : List α} {F Ft : List Nat} {e : Ending} (h : Laid K w A n c C F Ct Ft e w') : ∃ A' n' c' C' G', e = .returned (.slice A' n' c') ∧ Bag K w' A' n' c' C' G' ∧ C'.Perm (C ++ Ct) ∧ Fresh G' (blk A ++ (F ++ Ft)) w ∧ Keep (· ∈ blk A ++ (F ++ Ft)) w w' := by
  obtain ⟨A', n', c', l', C', F', rfl, v', f', d', p', nd', fr', bl', _, _, kp', _⟩ := h
  refine ⟨A', n', c', C', _, rfl, ⟨l', F', rfl, v', f', d', nd'⟩, p', fun b hb => ?_, kp'⟩
  rcases List.mem_append.1 hb with q | q
  · rcases bl' b q with q | q
    · exact Or.inl (by simp [q])
    · exact Or.inr q
  · rcases fr' b q with q | q
    · exact Or.inl (by simp at q; rcases q with q | q <;> simp [q])
    · exact Or.inr q
theorem Fo.leaf (K : El α) (w : World) (x : α) : Fo K w [⟨x, none, 0, 0⟩] [x] [] := Fo.mk1 (e := ⟨x, none, 0, 0⟩) (Vw.nil K w) .nil (fun y hy => by cases hy) (by simp [blk])
/-- What Pop finds ahead of its loop: the last tree, the rest. -/
theorem Bag.last {K : El α} {w : World} {A : Option Addr} {n c : Nat} {C : List α} {G : List Nat} (h : Bag K w A (n + 1) c C G) : ∃ l F e es C0 C1 F0 F1 g o, A = some ⟨g, o, none⟩ ∧ G = blk A ++ F ∧ Vw K w A (n + 1) c l ∧ l[n]? = some e ∧ w.rangeAt g (o + n * (K.z + 1)) (En.v K e) ∧ (∀ y, y ∈ C → K.key e.x ≤ K.key y) ∧ C.Perm (e.x :: (C0 ++ C1)) ∧ F = F0 ++ (blk e.A ++ F1) ∧ Fo K w (l.take n) C0 F0 ∧ Dn K (l.take n) ∧ Vw K w e.A e.n e.c es ∧ Fo K w es C1 F1 ∧ (blk A ++ (F0 ++ (blk e.A ++ F1))).Nodup := by
  obtain ⟨l, F, rfl, h1, h2, h3, h4⟩ := h
  have hl := h1.len
  obtain ⟨e, he⟩ : ∃ e, l[n]? = some e := ⟨_, List.getElem?_eq_getElem (by omega)⟩
  obtain ⟨g, o, hA, _, hra, _⟩ := h1.at he
  have hmin := fun y hy => h2.least h3 (by omega) he y hy
  have h20 := h2
  rw [split_at l n e he, List.drop_of_length_le (by omega), List.append_nil] at h20
  obtain ⟨C0, Ce, F0, Fe, rfl, rfl, f0, fe⟩ := Fo.split _ _ _ _ h20
  obtain ⟨es, C1, F1, p1, p2, p3, p4, p5, p6⟩ := fe.one
  subst p4 p5
  refine ⟨l, _, e, es, C0, C1, F0, F1, g, o, hA, rfl, h1, he, hra, hmin, ?_, rfl, f0, h3.take n, p1, p2, h4⟩
  exact List.perm_middle
/-- Pop's loop. -/
structure PopI (K : El α) (w : World) (G : List Nat) (bp : Nat) (Cx : List α) (A3 : Option Addr) (n3 c3 : Nat) (l3 : List (En α)) (wr : World) (j : Nat) (A : Option Addr) (n c : Nat) : Prop where
  ex : ∃ C H Cr Fr, Bag K wr A n c C H ∧ Fo K wr (l3.drop j) Cr Fr ∧ (H ++ (blk A3 ++ Fr)).Nodup ∧ (C ++ Cr).Perm Cx ∧ Fresh (H ++ (blk A3 ++ Fr)) G w
  row : Vw K wr A3 n3 c3 l3
  keep : Keep (· ∈ bp :: G) w wr
theorem PopI.below {K : El α} {w wr W : World} {G : List Nat} {bp n3 c3 j n c : Nat} {Cx : List α} {A3 A : Option Addr} {l3 : List (En α)} (h : PopI K w G bp Cx A3 n3 c3 l3 wr j A n c) (b : Below wr.heap.size wr W) : PopI K w G bp Cx A3 n3 c3 l3 W j A n c := by
  obtain ⟨C, H, Cr, Fr, h1, h2, h3, h4, h5⟩ := h.ex
  exact ⟨⟨C, H, Cr, Fr, h1.below b, h2.older b, h3, h4, h5⟩, h.row.below b, h.keep.trans (F' := fun _ => False) (fun _ q => q.elim) ⟨b.os, b.tape, b.output, b.size, fun k hk _ => b.block k hk⟩⟩
theorem PopI.split {K : El α} {w wr : World} {G : List Nat} {bp n3 c3 j n c : Nat} {Cx : List α} {A3 A : Option Addr} {l3 : List (En α)} {e : En α} (h : PopI K w G bp Cx A3 n3 c3 l3 wr j A n c) (he : l3[j]? = some e) (hbp : bp < w.heap.size) (hG : bp ∉ G) :
    ∃ l C F Ct Ft, Vw K wr A n c l ∧ Fo K wr l C F ∧ Dn K l ∧ Fo K wr [⟨e.x, e.A, e.n, e.c⟩] Ct Ft ∧ (blk A ++ (F ++ Ft)).Nodup ∧ C.length + Ct.length ≤ Cx.length ∧ (∀ b, b ∈ blk A ++ (F ++ Ft) → b ≠ bp) ∧
      ∀ w' e', Laid K wr A n c C F Ct Ft e' w' → ∃ A' n' c', e' = .returned (.slice A' n' c') ∧ Keep (· ∈ blk A ++ (F ++ Ft)) wr w' ∧ ∀ k u, PopI K w G bp Cx A3 n3 c3 l3 (w'.setCell ⟨bp, k, none⟩ u) (j + 1) A' n' c' := by
  obtain ⟨C, H, Cr, Fr, ⟨l, F, rfl, v1, f1, d1, nd1⟩, h2, h3, h4, h5⟩ := h.ex
  have ed : l3.drop j = [e] ++ l3.drop (j + 1) := by
    have hjl := (List.getElem?_eq_some_iff.1 he).1
    rw [List.drop_eq_getElem_cons hjl, (List.getElem?_eq_some_iff.1 he).2]
    rfl
  rw [ed] at h2
  obtain ⟨Ct, Cs, Ft, Fs, rfl, rfl, f2, f3⟩ := Fo.split _ _ _ _ h2
  obtain ⟨n1, n2, n3'⟩ := List.nodup_append.1 h3
  obtain ⟨n4, n5, n6⟩ := List.nodup_append.1 n2
  obtain ⟨n7, n8, n9⟩ := List.nodup_append.1 n5
  have hlen := h4.length_eq
  simp at hlen
  have hbF : ∀ b, b ∈ (blk A ++ F) ++ (blk A3 ++ (Ft ++ Fs)) → b ≠ bp := fun b hb e1 => by
    subst e1
    rcases h5 b hb with q | q
    · exact hG q
    · omega
  refine ⟨l, C, F, Ct, Ft, v1, f1, d1, f2, ?_, by omega, fun b hb => hbF b (by simp at hb ⊢; rcases hb with q | q | q <;> simp [q]), fun w' e' hL => ?_⟩
  · rw [← List.append_assoc]
    exact List.nodup_append.2 ⟨n1, n7, fun a ha b hb => n3' a ha b (by simp [hb])⟩
  obtain ⟨A', n', c', C', G', he', bg, pm, fr, kp⟩ := Bag.laid hL
  refine ⟨A', n', c', he', kp, fun k u => ?_⟩
  have hfar : ∀ b, b ≠ bp → (w'.setCell ⟨bp, k, none⟩ u).heap[b]? = w'.heap[b]? := fun b hb => heap_setCell_other w' _ b u hb
  have hG' : ∀ b, b ∈ G' → b ≠ bp := fun b hb e1 => by
    rcases fr b hb with q | q
    · exact hbF b (by simp at q ⊢; rcases q with q | q | q <;> simp [q]) e1
    · have := h.keep.size; omega
  have hout : ∀ b, b ∈ blk A3 ++ Fs → b ∉ blk A ++ (F ++ Ft) := fun b hb q => by
    have q' : b ∈ blk A ++ F ∨ b ∈ Ft := by simp at q ⊢; rcases q with q | q | q <;> simp [q]
    rcases q' with q' | q'
    · exact n3' b q' b (by simp at hb ⊢; rcases hb with q | q <;> simp [q]) rfl
    · rcases List.mem_append.1 hb with q2 | q2
      · exact n6 b q2 b (by simp [q']) rfl
      · exact n9 b q' b q2 rfl
  refine ⟨⟨C', G', Cs, Fs, bg.same fun b hb => hfar b (hG' b hb), (f3.keep kp (fun b hb => hout b (by simp [hb]))).same fun b hb => hfar b (hbF b (by simp [hb])), ?_, ?_, ?_⟩, ?_, ?_⟩
  · refine List.nodup_append.2 ⟨bg.nodup, List.nodup_append.2 ⟨blk_nodup _, n8, fun a ha b hb => n6 a ha b (by simp [hb])⟩, fun a ha b hb e1 => ?_⟩
    subst e1
    rcases fr a ha with q | q
    · exact hout a hb q
    · rcases List.mem_append.1 hb with q2 | q2
      · have := h.row.lt a q2; omega
      · have := f3.lt a q2; omega
  · refine (List.Perm.append_right Cs pm).trans ?_
    rw [List.append_assoc]
    exact h4
  · intro b hb
    rcases List.mem_append.1 hb with q | q
    · rcases fr b q with q | q
      · exact h5 b (by simp at q ⊢; rcases q with q | q | q <;> simp [q])
      · exact Or.inr (by have := h.keep.size; omega)
    · exact h5 b (by simp at q ⊢; rcases q with q | q <;> simp [q])
  · exact (h.row.same (w' := w') fun b hb => kp.block b (h.row.lt b hb) (hout b (by simp [hb]))).same fun b hb => hfar b (hbF b (by simp [hb]))
  · refine (h.keep.trans (F' := (· ∈ blk A ++ (F ++ Ft))) (fun b hb => ?_) kp).trans (F' := (· = bp)) (fun b hb => Or.inl (by subst hb; simp)) ⟨rfl, rfl, rfl, by simp [World.setCell], fun q hq hn => hfar q hn⟩
    rcases h5 b (by simp at hb ⊢; rcases hb with q | q | q <;> simp [q]) with q | q
    · exact Or.inl (by simp [q])
    · exact Or.inr q
theorem PopI.start {K : El α} {w w1 wd w4 : World} {bp m c en ec : Nat} {A eA : Option Addr} {l : List (En α)} {C0 C1 : List α} {F0 F1 : List Nat} {u : Value} {e : Ending} (b1 : Below w.heap.size w w1) (kd : Keep (· ∈ blk A) w1 wd) (vd : Vw K wd A m c (l.take m)) (f0 : Fo K w (l.take m) C0 F0) (d0 : Dn K (l.take m)) (nd : (blk A ++ (F0 ++ (blk eA ++ F1))).Nodup) (hlt : ∀ b, b ∈ blk A ++ (F0 ++ (blk eA ++ F1)) → b < w.heap.size) (hb : bp < w.heap.size) (hbp : bp ∉ blk A ++ (F0 ++ (blk eA ++ F1)))
    (st : Settled K (wd.setCell ⟨bp, 2, none⟩ u) eA en ec C1 F1 e w4) : ∃ n3 l3, e = .returned (.slice eA n3 ec) ∧ l3.length = n3 ∧ n3 ≤ en ∧ Keep (· ∈ blk eA ++ F1) (wd.setCell ⟨bp, 2, none⟩ u) w4 ∧ PopI K w (blk A ++ (F0 ++ (blk eA ++ F1))) bp (C0 ++ C1) eA n3 ec l3 w4 0 A m c := by
  obtain ⟨n3, l3, C1', F1', rfl, le3, v3, f3, d3, p3, nd3, fr3, k3, o3⟩ := st
  obtain ⟨n1, n2, n3'⟩ := List.nodup_append.1 nd
  obtain ⟨n4, n5, n6⟩ := List.nodup_append.1 n2
  have hs1 := b1.size
  have hsd := kd.size
  have hss : (wd.setCell ⟨bp, 2, none⟩ u).heap.size = wd.heap.size := by simp [World.setCell]
  have hfar : ∀ b, b ≠ bp → (wd.setCell ⟨bp, 2, none⟩ u).heap[b]? = wd.heap[b]? := fun b hb => heap_setCell_other wd _ b u hb
  have hA : ∀ b, b ∈ blk A → b ∉ blk eA ++ F1 := fun b hb q => n3' b hb b (by simp at q ⊢; rcases q with q | q <;> simp [q]) rfl
  have hF0 : ∀ b, b ∈ F0 → b ∉ blk eA ++ F1 := fun b hb q => n6 b hb b q rfl
  have hbA : ∀ b, b ∈ blk A ++ (F0 ++ (blk eA ++ F1)) → b ≠ bp := fun b hb e1 => hbp (e1 ▸ hb)
  have vd4 : Vw K w4 A m c (l.take m) := (vd.same fun b hb => hfar b (hbA b (by simp [hb]))).same fun b hb => k3.block b (by rw [hss]; exact vd.lt b hb) (hA b hb)
  have f04 : Fo K w4 (l.take m) C0 F0 := by
    have q1 : Fo K wd (l.take m) C0 F0 := (f0.older b1).keep kd (fun b hb q => n3' b q b (by simp [hb]) rfl)
    exact (q1.same fun b hb => hfar b (hbA b (by simp [hb]))).keep k3 hF0
  have hfr : ∀ b, b ∈ F1' → b ∈ F1 ∨ w.heap.size ≤ b := fun b hb => by
    rcases fr3 b hb with q | q
    · exact Or.inl q
    · exact Or.inr (by omega)
  refine ⟨n3, l3, rfl, v3.len, le3, k3, ⟨⟨C0, blk A ++ F0, C1', F1', ⟨l.take m, F0, rfl, vd4, f04, d0, ?_⟩, f3, ?_, List.Perm.append_left _ p3, ?_⟩, v3, ?_⟩⟩
  · exact List.nodup_append.2 ⟨n1, n4, fun a ha b hb => n3' a ha b (by simp [hb])⟩
  · refine List.nodup_append.2 ⟨List.nodup_append.2 ⟨n1, n4, fun a ha b hb => n3' a ha b (by simp [hb])⟩, nd3, fun a ha b hb e1 => ?_⟩
    subst e1
    have h1 : a ∈ blk eA ++ F1 ∨ w.heap.size ≤ a := by
      rcases List.mem_append.1 hb with q | q
      · exact Or.inl (by simp [q])
      · rcases hfr a q with q | q
        · exact Or.inl (by simp [q])
        · exact Or.inr q
    rcases h1 with h1 | h1
    · rcases List.mem_append.1 ha with q | q
      · exact hA a q h1
      · exact hF0 a q h1
    · have := hlt a (by simp at ha ⊢; rcases ha with q | q <;> simp [q])
      omega
  · intro b hb
    have hb' : b ∈ blk A ∨ b ∈ F0 ∨ b ∈ blk eA ∨ b ∈ F1' := by simpa [or_assoc] using hb
    rcases hb' with q | q | q | q
    · exact Or.inl (by simp [q])
    · exact Or.inl (by simp [q])
    · exact Or.inl (by simp [q])
    · rcases hfr b q with q | q
      · exact Or.inl (by simp [q])
      · exact Or.inr q
  · have kk : Keep (· = bp) wd (wd.setCell ⟨bp, 2, none⟩ u) := ⟨rfl, rfl, rfl, by rw [hss]; exact Nat.le_refl _, fun q hq hn => hfar q hn⟩
    refine (((Keep.of_below (F := (· ∈ bp :: (blk A ++ (F0 ++ (blk eA ++ F1))))) b1).trans (F' := (· ∈ blk A)) (fun b hb => Or.inl (by simp [hb])) kd).trans (F' := (· = bp)) (fun b hb => Or.inl (by subst hb; simp)) kk).trans (F' := (· ∈ blk eA ++ F1)) (fun b hb => Or.inl (by simp at hb ⊢; rcases hb with q | q <;> simp [q])) k3
theorem PopI.fin {K : El α} {w wr : World} {G : List Nat} {bp n3 c3 n c : Nat} {Cx : List α} {A3 A : Option Addr} {l3 : List (En α)} (h : PopI K w G bp Cx A3 n3 c3 l3 wr n3 A n c) (hl : l3.length = n3) (hb : bp < w.heap.size) (hbp : bp ∉ G) : ∃ C H, Bag K wr A n c C H ∧ C.Perm Cx ∧ Fresh H G w ∧ Keep (· ∈ bp :: G) w wr ∧ ∀ b, b ∈ H → b ≠ bp := by
  obtain ⟨C, H, Cr, Fr, h1, h2, h3, h4, h5⟩ := h.ex
  rw [List.drop_of_length_le (by omega)] at h2
  cases h2
  rw [List.append_nil] at h4
  refine ⟨C, H, h1, h4, fun b hb => h5 b (by simp [hb]), h.keep, fun b hb' e1 => ?_⟩
  subst e1
  rcases h5 b (by simp [hb']) with q | q
  · exact hbp q
  · omega
end Go.Proofs.Ytkgjbmlgbfejlaa
