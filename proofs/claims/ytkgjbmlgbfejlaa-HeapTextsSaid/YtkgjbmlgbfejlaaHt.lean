/-
  What settle leaves, and what it has at hand between.
-/
import Derived.Test.YtkgjbmlgbfejlaaHg
namespace Go.Proofs.Ytkgjbmlgbfejlaa
set_option linter.unusedVariables false
set_option linter.unusedSimpArgs false
open Go.RowKit
variable {α : Type}

def Settled (K : El α) (w : World) (A : Option Addr) (n c : Nat) (C : List α) (F : List Nat) (e : Ending) (w' : World) : Prop :=
  ∃ (n' : Nat) (l' : List (En α)) (C' : List α) (F' : List Nat), e = .returned (.slice A n' c) ∧ n' ≤ n ∧ Vw K w' A n' c l' ∧ Fo K w' l' C' F' ∧ Dn K l' ∧ C'.Perm C ∧ (blk A ++ F').Nodup ∧ Fresh F' F w ∧ Keep (· ∈ blk A ++ F) w w' ∧ Out K w w' A n
theorem Settled.small {K : El α} {w : World} {A : Option Addr} {n c : Nat} {l : List (En α)} {C : List α} {F : List Nat} (hv : Vw K w A n c l) (hf : Fo K w l C F) (nd : (blk A ++ F).Nodup) (hn : n < 2) : Settled K w A n c C F (.returned (.slice A n c)) w :=
  ⟨n, l, C, F, rfl, Nat.le_refl _, hv, hf, fun i j a b hij ha hb => by
    have := (List.getElem?_eq_some_iff.1 hb).1
    rw [hv.len] at this
    omega, List.Perm.refl _, nd, fun b hb => Or.inl hb, Keep.refl _ _, Out.of_same hv fun _ _ => rfl⟩
structure SetI (K : El α) (w : World) (g o n c half : Nat) (C : List α) (F : List Nat) (l2 : List (En α)) (n2 : Nat) (wr : World) (j nr : Nat) : Prop where
  ex : ∃ lr Cr Fr Cj Fj, Vw K wr (some ⟨g, o, none⟩) nr c lr ∧ Fo K wr lr Cr Fr ∧ Dn K lr ∧ Vw K wr (some ⟨g, o + half * (K.z + 1) + j * (K.z + 1), none⟩) (n2 - j) (c - half - j) (l2.drop j) ∧ Fo K wr (l2.drop j) Cj Fj ∧ (Fr ++ Fj).Nodup ∧ (Cr ++ Cj).Perm C ∧ Fresh (Fr ++ Fj) F w
  le : nr ≤ half + j
  keep : Keep (· ∈ blk (some ⟨g, o, none⟩) ++ F) w wr
  out : Out K w wr (some ⟨g, o, none⟩) n
theorem SetI.below {K : El α} {w wr W : World} {g o n c half n2 j nr : Nat} {C : List α} {F : List Nat} {l2 : List (En α)} (h : SetI K w g o n c half C F l2 n2 wr j nr) (b : Below wr.heap.size wr W) : SetI K w g o n c half C F l2 n2 W j nr := by
  obtain ⟨lr, Cr, Fr, Cj, Fj, h1, h2, h3, h4, h5, h6, h7, h8⟩ := h.ex
  exact ⟨⟨lr, Cr, Fr, Cj, Fj, h1.below b, h2.older b, h3, h4.below b, h5.older b, h6, h7, h8⟩, h.le, h.keep.trans (F' := fun _ => False) (fun _ q => q.elim) ⟨b.os, b.tape, b.output, b.size, fun k hk _ => b.block k hk⟩, h.out.trans (Out.of_same h1 (fun q hq => b.block q (h1.lt q hq)))⟩
theorem SetI.split {K : El α} (ok : ElOk K) {w wr : World} {g o n c half n2 j nr : Nat} {C : List α} {F : List Nat} {l2 : List (En α)} {e : En α} (h : SetI K w g o n c half C F l2 n2 wr j nr) (he : l2[j]? = some e) (hj : j < n2) (hn : half + n2 ≤ n) (hnc : n ≤ c) (hg : g < w.heap.size) (hgF : g ∉ F) (hF : ∀ b, b ∈ F → b < w.heap.size) :
    ∃ lr Cr Fr Ct Ft, Vw K wr (some ⟨g, o, none⟩) nr c lr ∧ Fo K wr lr Cr Fr ∧ Dn K lr ∧ Fo K wr [⟨e.x, e.A, e.n, e.c⟩] Ct Ft ∧ (blk (some ⟨g, o, none⟩) ++ (Fr ++ Ft)).Nodup ∧ Cr.length + Ct.length ≤ C.length ∧ wr.rangeAt g (o + half * (K.z + 1) + j * (K.z + 1)) (En.v K e) ∧
      ∀ w' e', Laid K wr (some ⟨g, o, none⟩) nr c Cr Fr Ct Ft e' w' → ∃ n', e' = .returned (.slice (some ⟨g, o, none⟩) n' c) ∧ SetI K w g o n c half C F l2 n2 w' (j + 1) n' := by
  obtain ⟨lr, Cr, Fr, Cj, Fj, h1, h2, h3, h4, h5, h6, h7, h8⟩ := h.ex
  have ed : l2.drop j = [e] ++ l2.drop (j + 1) := by
    have hjl := (List.getElem?_eq_some_iff.1 he).1
    rw [List.drop_eq_getElem_cons hjl, (List.getElem?_eq_some_iff.1 he).2]
    rfl
  have h50 := h5
  rw [ed] at h50
  obtain ⟨Ct, Cs, Ft, Fs, rfl, rfl, f1, f2⟩ := Fo.split _ _ _ _ h50
  obtain ⟨n1, n2', n3⟩ := List.nodup_append.1 h6
  obtain ⟨n4, n5, n6⟩ := List.nodup_append.1 n2'
  have hgo : ∀ b, b ∈ Fr ++ (Ft ++ Fs) → b ≠ g := fun b hb e1 => by
    subst e1
    rcases h8 b hb with q | q
    · exact hgF q
    · omega
  have hlen := h7.length_eq
  simp at hlen
  have hra : wr.rangeAt g (o + half * (K.z + 1) + j * (K.z + 1)) (En.v K e) := by
    obtain ⟨g2, o2, e2, _, r2, _⟩ := h4.at (i := 0) (e := e) (by rw [ed]; rfl)
    injection e2 with e2
    injection e2 with e2 e3
    rw [e2, e3]
    rw [Nat.zero_mul, Nat.add_zero] at r2
    exact r2
  refine ⟨lr, Cr, Fr, Ct, Ft, h1, h2, h3, f1, ?_, by omega, hra, fun w' e' hL => ?_⟩
  · refine List.nodup_append.2 ⟨blk_nodup _, List.nodup_append.2 ⟨n1, n4, fun a ha b hb => n3 a ha b (by simp [hb])⟩, fun a ha b hb e1 => ?_⟩
    have ha : a = g := by simpa [blk] using ha
    refine hgo b ?_ (e1.symm.trans ha)
    rcases List.mem_append.1 hb with q | q <;> simp [q]
  obtain ⟨A', n', c', l', C', F', rfl, v', f', d', p', nd', fr', _, same', le', kp', out'⟩ := hL
  have hnr := h.le
  obtain ⟨q1, q2⟩ := same' (by omega)
  subst q1
  have q2 := q2.symm
  subst q2
  have kF : ∀ b, b ∈ Fs → b ∉ blk (some ⟨g, o, none⟩) ++ (Fr ++ Ft) := fun b hb q => by
    rcases List.mem_append.1 q with q | q
    · exact hgo b (by simp [hb]) (by simpa [blk] using q)
    · rcases List.mem_append.1 q with q | q
      · exact n3 b q b (by simp [hb]) rfl
      · exact n6 b q b hb rfl
  have f2' : Fo K w' (l2.drop (j + 1)) Cs Fs := f2.keep kp' kF
  obtain ⟨c1, c2, a1, a2, a3, a4⟩ := out' g o rfl
  have vd : Vw K w' (some ⟨g, o + half * (K.z + 1) + (j + 1) * (K.z + 1), none⟩) (n2 - (j + 1)) (c - half - (j + 1)) (l2.drop (j + 1)) := by
    have v4 := h4.drop 1 (by omega)
    rw [List.drop_drop, Nat.one_mul] at v4
    have e1 : o + half * (K.z + 1) + j * (K.z + 1) + (K.z + 1) = o + half * (K.z + 1) + (j + 1) * (K.z + 1) := by rw [Nat.add_mul j 1]; omega
    rw [e1, Nat.sub_sub, Nat.sub_sub (c - half)] at v4
    refine v4.out ok a1 a2 a3 (fun k hk1 hk2 => a4 k (Or.inr ?_))
    have m1 : (nr + 1) * (K.z + 1) ≤ (half + (j + 1)) * (K.z + 1) := Nat.mul_le_mul_right _ (by omega)
    rw [Nat.add_mul half] at m1
    omega
  refine ⟨n', rfl, ⟨l', C', F', Cs, Fs, v', f', d', vd, f2', ?_, ?_, ?_⟩, by omega, ?_, ?_⟩
  · refine List.nodup_append.2 ⟨f'.nodup, n5, fun a ha b hb e1 => ?_⟩
    subst e1
    rcases fr' a ha with q | q
    · exact kF a hb (by simp at q; rcases q with q | q <;> simp [q])
    · have := f2.lt a hb; omega
  · refine (List.Perm.append_right Cs p').trans ?_
    rw [List.append_assoc]
    exact h7
  · intro b hb
    rcases List.mem_append.1 hb with q | q
    · rcases fr' b q with q | q
      · exact h8 b (by simp at q; rcases q with q | q <;> simp [q])
      · exact Or.inr (by have := h.keep.size; omega)
    · exact h8 b (by simp [q])
  · refine h.keep.trans (F' := (· ∈ blk (some ⟨g, o, none⟩) ++ (Fr ++ Ft))) (fun b hb => ?_) kp'
    rcases List.mem_append.1 hb with q | q
    · exact Or.inl (by simp [q])
    · rcases h8 b (by rcases List.mem_append.1 q with q | q <;> simp [q]) with q | q
      · exact Or.inl (by simp [q])
      · exact Or.inr q
  · exact h.out.trans (out'.mono (by omega))
theorem SetI.fin {K : El α} {w wr : World} {g o n c half n2 nr : Nat} {C : List α} {F : List Nat} {l2 : List (En α)} (h : SetI K w g o n c half C F l2 n2 wr n2 nr) (hl : l2.length = n2) (hn : half + n2 ≤ n) (hg : g < w.heap.size) (hgF : g ∉ F) : Settled K w (some ⟨g, o, none⟩) n c C F (.returned (.slice (some ⟨g, o, none⟩) nr c)) wr := by
  obtain ⟨lr, Cr, Fr, Cj, Fj, h1, h2, h3, h4, h5, h6, h7, h8⟩ := h.ex
  rw [List.drop_of_length_le (by omega)] at h5
  cases h5
  rw [List.append_nil] at h6 h7 h8
  refine ⟨nr, lr, Cr, Fr, rfl, by have := h.le; omega, h1, h2, h3, h7, List.nodup_append.2 ⟨blk_nodup _, h6, fun a ha b hb e1 => ?_⟩, h8, h.keep, h.out⟩
  have ha : a = g := by simpa [blk] using ha
  subst e1 ha
  rcases h8 a hb with q | q
  · exact hgF q
  · omega
/-- The first half is settled: what the second call finds. -/
theorem Settled.second {K : El α} (ok : ElOk K) {w w1 : World} {g o n c half : Nat} {l : List (En α)} {C1 C2 : List α} {F1 F2 : List Nat} {e : Ending} (hv : Vw K w (some ⟨g, o, none⟩) n c l) (hf2 : Fo K w (l.drop half) C2 F2) (nd : (blk (some ⟨g, o, none⟩) ++ (F1 ++ F2)).Nodup) (hh : half ≤ n) (h : Settled K w (some ⟨g, o, none⟩) half c C1 F1 e w1) :
    ∃ n1, e = .returned (.slice (some ⟨g, o, none⟩) n1 c) ∧ n1 ≤ half ∧ Vw K w1 (some ⟨g, o + half * (K.z + 1), none⟩) (n - half) (c - half) (l.drop half) ∧ Fo K w1 (l.drop half) C2 F2 ∧ Keep (· ∈ blk (some ⟨g, o, none⟩) ++ F1) w w1 ∧
      ∀ w2 e2, Settled K w1 (some ⟨g, o + half * (K.z + 1), none⟩) (n - half) (c - half) C2 F2 e2 w2 → ∃ n2 l2, e2 = .returned (.slice (some ⟨g, o + half * (K.z + 1), none⟩) n2 (c - half)) ∧ half + n2 ≤ n ∧ l2.length = n2 ∧ Keep (· ∈ blk (some ⟨g, o, none⟩) ++ F2) w1 w2 ∧ SetI K w g o n c half (C1 ++ C2) (F1 ++ F2) l2 n2 w2 0 n1 := by
  obtain ⟨n1, l1, C1', F1', rfl, le1, v1, f1, d1, p1, nd1, fr1, k1, o1⟩ := h
  obtain ⟨m1, m2, m3⟩ := List.nodup_append.1 nd
  obtain ⟨m4, m5, m6⟩ := List.nodup_append.1 m2
  obtain ⟨c1, c2, a1, a2, a3, a4⟩ := o1 g o rfl
  have hg : g < w.heap.size := hv.lt g (by simp [blk])
  have v2 : Vw K w1 (some ⟨g, o + half * (K.z + 1), none⟩) (n - half) (c - half) (l.drop half) := (hv.drop half hh).out ok a1 a2 a3 (fun k q1 q2 => a4 k (Or.inr q1))
  have f2 : Fo K w1 (l.drop half) C2 F2 := hf2.keep k1 (fun b hb q => by
    rcases List.mem_append.1 q with q | q
    · exact m3 b q b (by simp [hb]) rfl
    · exact m6 b q b hb rfl)
  refine ⟨n1, rfl, le1, v2, f2, k1, fun w2 e2 h2 => ?_⟩
  obtain ⟨n2, l2, C2', F2', rfl, le2, v2', f2', d2, p2, nd2, fr2, k2, o2⟩ := h2
  have hgF : g ∉ F1 ++ F2 := fun q => m3 g (by simp [blk]) g q rfl
  have k2' : Keep (· ∈ blk (some ⟨g, o, none⟩) ++ F2) w1 w2 := k2
  obtain ⟨c3, c4, b1, b2, b3, b4⟩ := o2 g (o + half * (K.z + 1)) rfl
  have hF1' : ∀ b, b ∈ F1' → b ∉ blk (some ⟨g, o, none⟩) ++ F2 := fun b hb q => by
    rcases List.mem_append.1 q with q | q
    · exact (List.nodup_append.1 nd1).2.2 b q b hb rfl
    · rcases fr1 b hb with q2 | q2
      · exact m6 b q2 b q rfl
      · have := hf2.lt b q; omega
  have v1' : Vw K w2 (some ⟨g, o, none⟩) n1 c l1 := v1.out ok b1 b2 b3 (fun k q1 q2 => b4 k (Or.inl (by have := Nat.mul_le_mul_right (K.z + 1) le1; omega)))
  refine ⟨n2, l2, rfl, by omega, v2'.len, k2', ⟨l1, C1', F1', C2', F2', v1', f1.keep k2' hF1', d1, ?_, f2', ?_, p1.append p2, ?_⟩, le1, ?_, ?_⟩
  · rw [Nat.zero_mul, Nat.add_zero]
    exact v2'
  · refine List.nodup_append.2 ⟨f1.nodup, f2'.nodup, fun a ha b hb e1 => ?_⟩
    subst e1
    rcases fr2 a hb with q | q
    · exact hF1' a ha (by simp [q])
    · have := f1.lt a ha; omega
  · intro b hb
    rcases List.mem_append.1 hb with q | q
    · rcases fr1 b q with q | q
      · exact Or.inl (by simp [q])
      · exact Or.inr q
    · rcases fr2 b q with q | q
      · exact Or.inl (by simp [q])
      · exact Or.inr (by have := k1.size; omega)
  · refine (show Keep (· ∈ blk (some ⟨g, o, none⟩) ++ (F1 ++ F2)) w w1 from ⟨k1.os, k1.tape, k1.output, k1.size, fun k hk hn => k1.block k hk (fun q => hn (by rcases List.mem_append.1 q with q | q <;> simp [q]))⟩).trans (F' := (· ∈ blk (some ⟨g, o, none⟩) ++ F2)) (fun b hb => Or.inl (by rcases List.mem_append.1 hb with q | q <;> simp [q])) k2'
  · intro g3 o3 e3
    injection e3 with e3
    injection e3 with e3 e4
    subst e3 e4
    rw [a2] at b1
    injection b1 with b1
    injection b1 with b1
    subst b1
    refine ⟨c1, c4, a1, b2, b3.trans a3, fun k hk => ?_⟩
    have mm : half * (K.z + 1) + (n - half) * (K.z + 1) = n * (K.z + 1) := by rw [← Nat.add_mul]; congr 1; omega
    rw [b4 k (by omega), a4 k (by omega)]
end Go.Proofs.Ytkgjbmlgbfejlaa
