/-
  What package slices' Delete does at a row's end: nothing appended, the last places cleared.
-/
import Derived.Test.YtkgjbmlgbfejlaaHf
import Derived.Deep.RegionLaw
import Derived.RegionTactic
namespace Go.Proofs.Ytkgjbmlgbfejlaa
set_option linter.unusedVariables false
set_option linter.unusedSimpArgs false
open Go.RowKit
variable {α : Type}

theorem src_none {K : El α} (ok : ElOk K) (w : World) (sz : Nat) (A : Option Addr) (c : Nat) : Src Try.prog sz K.S (.slice A 0 c) 0 [] w := by
  cases A with
  | none => exact Src.ofNil w ok.under c
  | some a => exact Src.ofSlice w ok.under a 0 c [] (by simp) (fun j u hu => by simp at hu) (fun u hu => by cases hu)
theorem step_app_none {K : El α} (ok : ElOk K) {w : World} {ops : Array Oper} {o : Oper} {a : Act} {k : Act → World → Prop} {Q : Exit → Act → World → Prop} {E : Prop} (hgd : o.guard = none) (s x : Operand)
    (ho : o.op = .call { callee := .builtin .append, args := #[s, x], argTypes := #[K.S, K.S] }) (A A' : Option Addr) (n c m c' : Nat) (hs : a.eval s = .slice A n c) (hx : a.eval x = .slice A' m c') (hm : m = 0) (hnc : n ≤ c)
    (h : k (a.put o.dst (.slice A n c)) w) : if Region.wanted o (yielded ops a.tmps) = true then Oper.wp Try.prog o a w k Q else E := by
  subst hm
  have hw : Region.wanted o (yielded ops a.tmps) = true := by simp [Region.wanted, hgd]
  obtain ⟨i0, z0, hi, hz, hsz, hby, hzs, hzo⟩ := ok.info
  have hrun := run_append_nothing (P := Try.prog) w K.S K.S o.type K.T i0 ok.under hi A n c hnc (.slice A' 0 c') (src_none ok w _ A' c')
  rw [if_pos hw]
  unfold Oper.wp execOp
  simp only [ho, resolve, invoke, builtin, Sem.run_bind, Sem.run_pure, Result.andThen_ok, List.map_toArray, List.map_cons, List.map_nil, hs, hx, hrun]
  exact h
/-- One thing more, in a drawn region. -/
theorem step_app {K : El α} (ok : ElOk K) {w : World} {ops : Array Oper} {o : Oper} {a : Act} {k : Act → World → Prop} {Q : Exit → Act → World → Prop} {E : Prop} (hgd : o.guard = none) (s x : Operand)
    (ho : o.op = .call { callee := .builtin .append, args := #[s, x], argTypes := #[K.S, K.S] }) (A : Option Addr) (n c : Nat) (l : List (En α)) (hs : a.eval s = .slice A n c) (v : Vw K w A n c l) (sb so sc : Nat) (e : En α) (hx : a.eval x = .slice (some ⟨sb, so, none⟩) 1 sc) (hr : w.rangeAt sb so (En.v K e)) (hn : n ≤ 1000000)
    (h : ∀ A' c' w', Vw K w' A' (n + 1) c' (l ++ [e]) → Grew K w w' A n c A' c' → k (a.put o.dst (.slice A' (n + 1) c')) w') : if Region.wanted o (yielded ops a.tmps) = true then Oper.wp Try.prog o a w k Q else E := by
  have hw : Region.wanted o (yielded ops a.tmps) = true := by simp [Region.wanted, hgd]
  obtain ⟨A', c', w', hrun, h1, h2⟩ := run_app ok w v sb so sc e hr hn o.type
  rw [if_pos hw]
  unfold Oper.wp execOp
  simp only [ho, resolve, invoke, builtin, Sem.run_bind, Sem.run_pure, Result.andThen_ok, List.map_toArray, List.map_cons, List.map_nil, hs, hx, hrun]
  exact h A' c' w' h1 h2
theorem wpList_app {K : El α} (ok : ElOk K) {w : World} {ops : Array Oper} {rs : List Oper} {o : Oper} {a : Act} {Q : Exit → Act → World → Prop} (hgd : o.guard = none) (s x : Operand)
    (ho : o.op = .call { callee := .builtin .append, args := #[s, x], argTypes := #[K.S, K.S] }) (A : Option Addr) (n c : Nat) (l : List (En α)) (hs : a.eval s = .slice A n c) (v : Vw K w A n c l) (sb so sc : Nat) (e : En α) (hx : a.eval x = .slice (some ⟨sb, so, none⟩) 1 sc) (hr : w.rangeAt sb so (En.v K e)) (hn : n ≤ 1000000)
    (h : ∀ A' c' w', Vw K w' A' (n + 1) c' (l ++ [e]) → Grew K w w' A n c A' c' → wpList Try.prog ops Q rs (a.put o.dst (.slice A' (n + 1) c')) w') : wpList Try.prog ops Q (o :: rs) a w :=
  wpList_step fun k hK => step_app ok hgd s x ho A n c l hs v sb so sc e hx hr hn (fun A' c' w' h1 h2 => hK _ _ (h A' c' w' h1 h2))
/-- 'm' things of a row are cleared. -/
theorem wpList_clear {K : El α} (ok : ElOk K) {w : World} {ops : Array Oper} {rs : List Oper} {o : Oper} {a : Act} {Q : Exit → Act → World → Prop} (hgd : o.guard = none) (x : Operand)
    (ho : o.op = .call { callee := .builtin .clear, args := #[x], argTypes := #[K.S] }) (g o1 m c1 : Nat) (hx : a.eval x = .slice (some ⟨g, o1, none⟩) m c1) (hm : 0 < m) (cur : Array Value) (hg : w.heap[g]? = some (.cells cur K.T (0, 0))) (hl : o1 + m * (K.z + 1) ≤ cur.size)
    (h : ∀ vs : List Value, vs.length = m * (K.z + 1) → wpList Try.prog ops Q rs (a.put o.dst (.tuple #[])) (w.setCells g o1 vs)) : wpList Try.prog ops Q (o :: rs) a w := by
  refine wpList_plain hgd fun k hK => ?_
  obtain ⟨i0, z0, hi, hz, hsz, hby, hzs, hzo⟩ := ok.info
  have hlen : (Builtin.zeroCells z0.cells m).toList.length = m * (K.z + 1) := by rw [Array.length_toList, size_zeroCells, hzs]
  have hone : ∀ u, u ∈ (Builtin.zeroCells z0.cells m).toList → u.oneCell' = true := by
    intro u hu
    unfold Builtin.zeroCells at hu
    simp at hu
    obtain ⟨i, hi1, rfl⟩ := hu
    refine hzo _ ?_
    have hpos : 0 < z0.cells.size := by rw [hzs]; omega
    have := Nat.mod_lt i hpos
    rw [List.mem_iff_getElem]
    refine ⟨i % z0.cells.size, by simpa using this, ?_⟩
    simp [this]
  have hst := run_storeCells_cells (P := Try.prog) g o1 (Builtin.zeroCells z0.cells m).toList 0 w (fun j hj => by
      rw [hlen] at hj
      rw [cell_of_row w g _ cur _ (0, 0) hg, Array.getElem?_eq_getElem (by omega)]; rfl) (fun j hj => frozen_of_row w g _ cur _ hg) hone
  rw [Nat.add_zero] at hst
  obtain ⟨m', rfl⟩ : ∃ m', m = m' + 1 := ⟨m - 1, by omega⟩
  have hv : ∀ w, (zeroValue K.T).run Try.prog w = .ok z0 w := fun w => by simp [zeroValue, typeInfo, hi, hz]
  have hrun : (Builtin.clear_ #[K.S] o.type #[.slice (some ⟨g, o1, none⟩) (m' + 1) c1]).run Try.prog w = .ok (.tuple #[]) (w.setCells g o1 (Builtin.zeroCells z0.cells (m' + 1)).toList) := by
    simp [Builtin.clear_, run_underlying ok.under, hv, hst]
  unfold Oper.wp execOp
  simp only [ho, resolve, invoke, builtin, Sem.run_bind, Sem.run_pure, Result.andThen_ok, List.map_toArray, List.map_cons, List.map_nil, hx, hrun]
  exact hK _ _ (h _ hlen)
/-- So many cells were written. -/
def Cl (w w' : World) (g o m : Nat) : Prop := ∃ vs : List Value, vs.length = m ∧ w' = w.setCells g o vs
/-- The row's front behind that. -/
theorem Vw.cleared {K : El α} {w : World} {g o n c k : Nat} {l : List (En α)} (ok : ElOk K) (h : Vw K w (some ⟨g, o, none⟩) n c l) (hk : k < n) (vs : List Value) (hv : vs.length = (n - k) * (K.z + 1)) :
    Vw K (w.setCells g (o + k * (K.z + 1)) vs) (some ⟨g, o, none⟩) k c (l.take k) ∧ Out K w (w.setCells g (o + k * (K.z + 1)) vs) (some ⟨g, o, none⟩) n ∧ Keep (· ∈ blk (some ⟨g, o, none⟩)) w (w.setCells g (o + k * (K.z + 1)) vs) := by
  have ht := h.take k (by omega)
  rcases h.lie with ⟨h0, _⟩ | ⟨g', o', cur, h0, h1, h2, h3, h4, h5⟩
  · cases h0
  injection h0 with h0
  injection h0 with h0 h0'
  subst h0 h0'
  have hm : n * (K.z + 1) ≤ c * (K.z + 1) := Nat.mul_le_mul_right _ h2
  have hkn : k * (K.z + 1) + (n - k) * (K.z + 1) = n * (K.z + 1) := by rw [← Nat.add_mul]; congr 1; omega
  obtain ⟨cur', q1, q2, q3, q4⟩ := setCells_row g K.T vs (o + k * (K.z + 1)) w cur h1 (by rw [hv]; omega)
  refine ⟨ht.out ok h1 q1 q2 (fun p hp1 hp2 => q3 p (Or.inl hp2)), fun g2 o2 e2 => ?_, setCells_keep g vs _ w⟩
  injection e2 with e2
  injection e2 with e2 e3
  subst e2 e3
  exact ⟨cur, cur', h1, q1, q2, fun p hp => q3 p (by rw [hv]; omega)⟩
theorem Vw.some_of {K : El α} {w : World} {A : Option Addr} {n c : Nat} {l : List (En α)} (h : Vw K w A n c l) (hn : 0 < n) : ∃ g o cur, A = some ⟨g, o, none⟩ ∧ w.heap[g]? = some (.cells cur K.T (0, 0)) ∧ o + c * (K.z + 1) ≤ cur.size := by
  rcases h.lie with ⟨h0, h1, _⟩ | ⟨g', o', cur, h0, h1, h2, h3, h4, h5⟩
  · omega
  · exact ⟨g', o', cur, h0, h1, h4⟩
end Go.Proofs.Ytkgjbmlgbfejlaa
