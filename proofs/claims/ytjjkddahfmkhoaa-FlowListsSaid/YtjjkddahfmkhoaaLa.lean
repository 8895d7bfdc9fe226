/-
  An append onto a row of one's own, of whatever is read: where the row lies behind it.
-/
import Derived.Test.YtjjkddahfmkhoaaMem
import Derived.Deep.AppendSrc
import Derived.Deep.MidRow
import Derived.Deep.Upon
namespace Go.Proofs.Ytjjkddahfmkhoaa
set_option linter.unusedVariables false
set_option linter.unusedSimpArgs false
open Go.RowKit

/-- The blocks that a row's append may write. -/
def Of (A : Option Addr) (k : Nat) : Prop := ∃ a, A = some a ∧ k = a.block
/-- What the program says of rows of type t, of cells of type e. -/
def Cells1 (t e : TypeId) : Prop := Try.prog.underlying t = some (.slice e) ∧ ∃ (i : TypeInfo) (z : Value), Try.prog.info? e = some i ∧ i.zero = some z ∧ i.size = 1 ∧ i.bytes ≤ 1000 ∧ z.cells.size = 1
theorem run_row_app {t e : TypeId} (hk : Cells1 t e) (w : World) {A : Option Addr} {n c : Nat} {xs : List Value} (h : RowA w e A c xs) (hn : xs.length = n) (A' : Option Addr) (m c' : Nat) (ys : List Value) (hm : ys.length = m) (hs : Src w A' c' ys) (h1 : ∀ u, u ∈ ys → u.oneCell' = true) (hl : n + m ≤ 1000000) (ty : TypeId) :
    ∃ A'' c'' w', (Builtin.append_ #[t, t] ty #[.slice A n c, .slice A' m c']).run Try.prog w = .ok (.slice A'' (n + m) c'') w' ∧ RowA w' e A'' c'' (xs ++ ys) ∧ Keep (Of A) w w' ∧ ((A'' = A) ∨ ∃ g, A'' = some ⟨g, 0, none⟩ ∧ w.heap.size ≤ g) := by
  subst hn hm
  obtain ⟨hu, i0, z0, hi, hz, hsz, hby, hzs⟩ := hk
  have hcap := h.cap
  have hsrc : Go.Src Try.prog i0.size t (.slice A' ys.length c') ys.length ys w := by
    cases A' with
    | none =>
      obtain ⟨e1, e2⟩ := hs.1 rfl
      subst e1
      exact Go.Src.ofNil w hu c'
    | some a => exact Go.Src.ofSlice w hu a ys.length c' ys (by rw [hsz, Nat.mul_one]) (fun j u hju => hs.2 a rfl j u hju) h1
  rcases Nat.eq_zero_or_pos ys.length with h0 | h0
  · obtain rfl : ys = [] := List.eq_nil_of_length_eq_zero h0
    have hrun := run_append_nothing (P := Try.prog) w t t ty e i0 hu hi A xs.length c hcap.1 (.slice A' 0 c') hsrc
    exact ⟨A, c, w, hrun, by rw [List.append_nil]; exact h, Keep.refl _ _, Or.inl rfl⟩
  by_cases hroom : xs.length + ys.length ≤ c
  · rcases h.parts with ⟨rfl, rfl, rfl⟩ | ⟨g, cur, rfl, q1, q2, q3, q4, q5⟩
    · exfalso; simp only [List.length_nil, Nat.zero_add] at hroom; omega
    have hrun := run_append_room_src (P := Try.prog) w t t ty e i0 hu hi g 0 xs.length c _ ys.length ys hsrc hroom (fun j hj => by
        rw [cell_of_row w g _ cur _ (0, 0) q1, hsz, Array.getElem?_eq_getElem (by omega)]
        rfl) (fun j hj => frozen_of_row w g _ cur _ q1)
    rw [hsz] at hrun
    refine ⟨_, _, _, hrun, ?_, ?_, Or.inl rfl⟩
    · have hset := rangeSet g e ys (0 + xs.length * 1) w cur q1 (by omega)
      obtain ⟨cur', r1, r2, r3, r4⟩ := hset
      refine RowA.mk r1 (by rw [List.length_append]; omega) q3 (by omega) ?_
      apply List.ext_getElem?
      intro k
      rw [List.getElem?_take]
      split
      · rename_i hk
        rw [List.length_append] at hk
        rw [Array.getElem?_toList]
        rcases Nat.lt_or_ge k xs.length with hk' | hk'
        · rw [r3 k (by omega), List.getElem?_append_left hk', ← Array.getElem?_toList, ← q5, List.getElem?_take, if_pos hk']
        · rw [List.getElem?_append_right hk']
          obtain ⟨d, rfl⟩ : ∃ d, k = xs.length + d := ⟨k - xs.length, by omega⟩
          rw [Nat.add_sub_cancel_left]
          have := r4 d (ys[d]'(by omega)) (List.getElem?_eq_getElem (by omega))
          rw [List.getElem?_eq_getElem (by omega), ← this]
          congr 1
          omega
      · rename_i hk
        rw [List.getElem?_eq_none (by omega)]
    · exact ⟨World.os_setCells w _ _ _, tape_setCells g ys _ w, World.output_setCells w _ _ _, by rw [size_setCells]; exact Nat.le_refl _, fun k _ hk => heap_setCells g k (fun e => hk ⟨_, rfl, e⟩) ys _ w⟩
  · have hb0 : Below w.heap.size w w.drew := (Below.refl _ _).drew
    have hold : (Builtin.firstCells i0.size xs.length (.slice A xs.length c)).run Try.prog w.drew = .ok xs.toArray w.drew := by
      rcases h.parts with ⟨rfl, rfl, rfl⟩ | ⟨g, cur, rfl, q1, q2, q3, q4, q5⟩
      · exact run_firstCells_none _ _ _ _ _
      · refine run_firstCells_some w.drew _ xs.length ⟨g, 0, none⟩ xs.length c _ (by rw [hsz, Nat.mul_one]) (fun j u hu => ?_)
        have := (h.below hb0).src.2 ⟨g, 0, none⟩ rfl j u hu
        exact this
    have hfit : Builtin.nextslicecap (xs.length + ys.length) c * i0.bytes ≤ 281474976710656 := growslice_fits (by omega) (by
      have := Nat.mul_le_mul hl hby
      omega)
    have hrun := run_append_grow_src (P := Try.prog) w t t ty e i0 z0 hu hi hz A xs.length c xs hold _ ys.length ys hsrc (by omega) (by omega) hfit
    have hge := grownCap_ge w (xs.length + ys.length) c e
    have hmx := grownCap_le_maxLen w (xs.length + ys.length) c e (by unfold maxLen; omega)
    obtain ⟨G, hG⟩ : ∃ G, grownCap w (xs.length + ys.length) c e = G := ⟨_, rfl⟩
    rw [hG] at hrun hge hmx
    have hb : Below w.heap.size w (w.drew.alloc (.cells ((xs ++ ys).toArray ++ Builtin.zeroCells z0.cells (G - (xs.length + ys.length))) e)) := (Below.refl _ _).drew.alloc (Nat.le_refl _) _
    refine ⟨_, _, _, hrun, RowA.mk (heap_alloc_new w.drew _) (by rw [List.length_append]; exact hge) hmx ?_ ?_, Keep.of_below hb, Or.inr ⟨_, rfl, Nat.le_refl _⟩⟩
    · rw [Array.size_append, List.size_toArray, List.length_append, size_zeroCells, hzs]; omega
    · rw [Array.toList_append, List.take_append_of_le_length (by simp)]
      exact List.take_of_length_le (Nat.le_refl _)
where
  rangeSet (g : Nat) (T : TypeId) : ∀ (vs : List Value) (o : Nat) (w : World) (cur : Array Value), w.heap[g]? = some (.cells cur T (0, 0)) → o + vs.length ≤ cur.size →
    ∃ cur', (w.setCells g o vs).heap[g]? = some (.cells cur' T (0, 0)) ∧ cur'.size = cur.size ∧ (∀ k, k < o ∨ o + vs.length ≤ k → cur'[k]? = cur[k]?) ∧ ∀ j u, vs[j]? = some u → cur'[o + j]? = some u
  | [], o, w, cur, h, _ => ⟨cur, h, rfl, fun _ _ => rfl, fun j u hu => by simp at hu⟩
  | v :: r, o, w, cur, h, hl => by
    have hl' : o + (r.length + 1) ≤ cur.size := hl
    obtain ⟨cur', h1, h2, h3, h4⟩ := rangeSet g T r (o + 1) (w.setCell ⟨g, o, none⟩ v) (cur.setIfInBounds o v) (heap_setCell_same w g o cur T v h) (by rw [Array.size_setIfInBounds]; omega)
    refine ⟨cur', h1, by rw [h2, Array.size_setIfInBounds], fun k hk => ?_, fun j u hu => ?_⟩
    · have hk' : k < o ∨ o + (r.length + 1) ≤ k := hk
      rw [h3 k (by omega), Array.getElem?_setIfInBounds_ne (by omega)]
    · cases j with
      | zero =>
        have e : v = u := by simpa using hu
        subst e
        rw [Nat.add_zero, h3 o (by omega), Array.getElem?_setIfInBounds_self_of_lt (by omega)]
      | succ j =>
        rw [show o + (j + 1) = o + 1 + j by omega]
        exact h4 j u (by simpa using hu)
  heap_setCells (g k : Nat) (h : k ≠ g) : ∀ (vs : List Value) (o : Nat) (w : World), (w.setCells g o vs).heap[k]? = w.heap[k]?
  | [], _, _ => rfl
  | v :: r, o, w => by rw [World.setCells, heap_setCells g k h r (o + 1), heap_setCell_other w ⟨g, o, none⟩ k v h]
  size_setCells (g : Nat) : ∀ (vs : List Value) (o : Nat) (w : World), (w.setCells g o vs).heap.size = w.heap.size
  | [], _, _ => rfl
  | v :: r, o, w => by rw [World.setCells, size_setCells g r (o + 1)]; simp [World.setCell]
  tape_setCells (g : Nat) : ∀ (vs : List Value) (o : Nat) (w : World), (w.setCells g o vs).tape = w.tape
  | [], _, _ => rfl
  | v :: r, o, w => by rw [World.setCells, tape_setCells g r (o + 1)]; rfl
theorem wpList_row_app {t e : TypeId} (hk : Cells1 t e) {w : World} {ops : Array Oper} {rs : List Oper} {o : Oper} {a : Act} {Q : Exit → Act → World → Prop} (hgd : o.guard = none) (s x : Operand)
    (ho : o.op = .call { callee := .builtin .append, args := #[s, x], argTypes := #[t, t] }) (A : Option Addr) (n c : Nat) (xs : List Value) (hs : a.eval s = .slice A n c) (h : RowA w e A c xs) (hn : xs.length = n) (A' : Option Addr) (m c' : Nat) (ys : List Value) (hx : a.eval x = .slice A' m c') (hm : ys.length = m) (hsrc : Src w A' c' ys) (h1 : ∀ u, u ∈ ys → u.oneCell' = true) (hl : n + m ≤ 1000000)
    (k : ∀ A'' c'' w', RowA w' e A'' c'' (xs ++ ys) → Keep (Of A) w w' → ((A'' = A) ∨ ∃ g, A'' = some ⟨g, 0, none⟩ ∧ w.heap.size ≤ g) → wpList Try.prog ops Q rs (a.put o.dst (.slice A'' (n + m) c'')) w') : wpList Try.prog ops Q (o :: rs) a w := by
  refine wpList_plain hgd fun K hK => ?_
  obtain ⟨A'', c'', w', hrun, p1, p2, p3⟩ := run_row_app hk w h hn A' m c' ys hm hsrc h1 hl o.type
  unfold Oper.wp execOp
  simp only [ho, resolve, invoke, builtin, Sem.run_bind, Sem.run_pure, Result.andThen_ok, List.map_toArray, List.map_cons, List.map_nil, hs, hx, hrun]
  exact hK _ _ (k A'' c'' w' p1 p2 p3)
theorem step_row_app {t e : TypeId} (hk : Cells1 t e) {w : World} {ops : Array Oper} {o : Oper} {a : Act} {K : Act → World → Prop} {Q : Exit → Act → World → Prop} {E : Prop} (hgd : o.guard = none) (s x : Operand)
    (ho : o.op = .call { callee := .builtin .append, args := #[s, x], argTypes := #[t, t] }) (A : Option Addr) (n c : Nat) (xs : List Value) (hs : a.eval s = .slice A n c) (h : RowA w e A c xs) (hn : xs.length = n) (A' : Option Addr) (m c' : Nat) (ys : List Value) (hx : a.eval x = .slice A' m c') (hm : ys.length = m) (hsrc : Src w A' c' ys) (h1 : ∀ u, u ∈ ys → u.oneCell' = true) (hl : n + m ≤ 1000000)
    (k : ∀ A'' c'' w', RowA w' e A'' c'' (xs ++ ys) → Keep (Of A) w w' → ((A'' = A) ∨ ∃ g, A'' = some ⟨g, 0, none⟩ ∧ w.heap.size ≤ g) → K (a.put o.dst (.slice A'' (n + m) c'')) w') : if Region.wanted o (yielded ops a.tmps) = true then Oper.wp Try.prog o a w K Q else E := by
  have hw : Region.wanted o (yielded ops a.tmps) = true := by simp [Region.wanted, hgd]
  obtain ⟨A'', c'', w', hrun, p1, p2, p3⟩ := run_row_app hk w h hn A' m c' ys hm hsrc h1 hl o.type
  rw [if_pos hw]
  unfold Oper.wp execOp
  simp only [ho, resolve, invoke, builtin, Sem.run_bind, Sem.run_pure, Result.andThen_ok, List.map_toArray, List.map_cons, List.map_nil, hs, hx, hrun]
  exact k A'' c'' w' p1 p2 p3
end Go.Proofs.Ytjjkddahfmkhoaa
