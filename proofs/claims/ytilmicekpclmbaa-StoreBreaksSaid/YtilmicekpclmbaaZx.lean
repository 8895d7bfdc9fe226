/-
  Package store: what appends in a round leave; the blocks of a chain.
  Package store: rows of free blocks: made, counted, searched; take; names.
  Package store: names, scan, Drop.
-/
import Derived.Test.YtilmicekpclmbaaZs
import Derived.Test.YtilmicekpclmbaaZw
import Derived.Lib.Slices
namespace Go.Proofs.Ytilmicekpclmbaa
set_option linter.unusedVariables false
set_option linter.unusedSimpArgs false
set_option maxRecDepth 100000
open Go.RowKit Go.Shelf
attribute [local go_sem] Oper.semAt_some

/-- An append onto a row of another type leaves all cells of the types T. -/
theorem kpT_grown {T : List TypeId} {n₀ base : Nat} {w w' : World} {e : TypeId} {z : Nat} {A : Option Addr} {n c : Nat} {xs : List Value} (hg : w.grownBy w' (Value.slice A n c).ownBlock) (hr : RowN w base e z A n c xs) (hb : n₀ ≤ base) (he : e ∉ T) (hn : n₀ ≤ w.heap.size) : KpT T n₀ w w' := by
  have own : ∀ k, (Value.slice A n c).ownBlock = some k → ∃ a, A = some a ∧ k = a.block := fun k hk => by
    rcases hr.parts with ⟨rfl, _⟩ | ⟨g, cur, rfl, _⟩
    · cases hk
    · exact ⟨_, rfl, by simpa [Value.ownBlock] using hk.symm⟩
  refine ⟨⟨hg.os, hg.tape, hg.output, hg.size, fun k hk => hg.block k (by omega) (fun e' => ?_)⟩, hg.size, fun k cur t fr h1 h2 => hg.block k (Array.getElem?_eq_some_iff.1 h1).1 (fun e' => ?_)⟩
  · obtain ⟨a, ha, rfl⟩ := own k e'.symm
    have := (hr.lt a ha).1
    omega
  · obtain ⟨a, ha, rfl⟩ := own k e'.symm
    obtain ⟨cur', h3⟩ := hr.kind a ha
    rw [h1] at h3
    injection h3 with h3
    injection h3 with _ h3
    subst h3
    exact he h2
theorem others_grown {base : Nat} {w w' : World} {e : TypeId} {z : Nat} {A : Option Addr} {n c : Nat} {xs : List Value} (hg : w.grownBy w' (Value.slice A n c).ownBlock) (hr : RowN w base e z A n c xs) : KeepsOthers w w' := by
  refine KeepsOthers.of_grownBy hg (fun j o e1 e2 => ?_)
  rcases hr.parts with ⟨rfl, _⟩ | ⟨g, cur, rfl, _, h1, _⟩
  · cases e1
  · have : g = j := by simpa [Value.ownBlock] using e1
    subst this
    rw [h1] at e2
    injection e2 with e2
    subst e2
    rfl
theorem arr_grown {base q : Nat} {w w' : World} {e t : TypeId} {z : Nat} {A : Option Addr} {n c : Nat} {xs vs : List Value} (h : Arr w q t vs) (hg : w.grownBy w' (Value.slice A n c).ownBlock) (hr : RowN w base e z A n c xs) (ht : t ≠ e) : Arr w' q t vs := by
  refine h.same (hg.block q h.lt (fun e' => ?_))
  rcases hr.parts with ⟨rfl, _⟩ | ⟨g, cur, rfl, _, h1, _⟩
  · cases e'
  · have : g = q := by simpa [Value.ownBlock] using e'.symm
    subst this
    unfold Arr at h
    rw [h1] at h
    injection h with h
    injection h with _ h
    exact ht h.symm
theorem row_form {w : World} {base : Nat} {e : TypeId} {z n : Nat} {v : Value} {xs : List Value} (h : w.ownsRow base e z v n xs) : ∃ A c, v = .slice A n c := by
  rcases h.2 with ⟨h1, h2⟩ | ⟨g, cap, cur, h1, _⟩
  · exact ⟨none, 0, by rw [h1, h2]⟩
  · exact ⟨_, _, h1⟩
/-- One int more, in a round. -/
theorem app_in_i {F : Fence} {m : Nat} (w : World) {ops : Array Oper} {rs : List Oper} {o : Oper} {a : Act} {Q : Exit → Act → World → Prop} (hgd : o.guard = none)
    (s x : Operand) (ho : o.op = .call { callee := .builtin .append, args := #[s, x], argTypes := #[43, 43] })
    (base n cap : Nat) (A : Option Addr) (l : List Int) (hs : a.eval s = .slice A n cap) (hown : OwnI w base A n cap l)
    (b' : Nat) (c : Nat) (v : Int) (hx : a.eval x = .slice (some ⟨b', 0, none⟩) 1 c) (hr : w.cell? ⟨b', 0, none⟩ = some (.int .i64 v)) (hf : I64x v)
    (hl : n ≤ 1000000) (hbase : base ≤ w.heap.size)
    (h : ∀ A' cap' w', OwnI w' base A' (n + 1) cap' (l ++ [v]) → w.grownBy w' (Value.slice A n cap).ownBlock → wpListIn F m Try.prog ops Q rs (a.put o.dst (.slice A' (n + 1) cap')) w') :
    wpListIn F m Try.prog ops Q (o :: rs) a w := by
  obtain ⟨i0, hi, hz0, hz1, hz2⟩ := info_parts Try.info_int
  have hsrc : ∀ (j : Nat) (u : Value), (ivs [v])[j]? = some u → w.cell? ((⟨b', 0, none⟩ : Addr).add j) = some u := fun j u hu => by
    cases j with
    | zero =>
      have e : some (Value.int .i64 v) = some u := hu
      rw [← e, Addr.add_mid]; exact hr
    | succ j => cases hu
  refine wpListIn_append_own w hgd s x 43 ho base 3 i0 _ 1 8 Try.underlying43 hi hz0 hz1 hz2 rfl (by decide) _ n (ivs l) hs hown.1 ⟨b', 0, none⟩ 1 c (ivs [v]) hx rfl hsrc (ivs_one [v]) (by unfold maxLen; omega) (by omega) hbase ?_
  intro v' w' h1 h2 _
  obtain ⟨A', c', rfl⟩ := row_form h1
  refine h A' c' w' ⟨?_, by rw [List.length_append, hown.2.1]; rfl, fun i hi => ?_⟩ h2
  · have e : ivs (l ++ [v]) = ivs l ++ ivs [v] := by unfold ivs; rw [List.map_append]
    rw [e]; exact h1
  · rw [iAt_snoc]
    have hl := hown.2.1
    split
    · exact hown.2.2 i (by omega)
    · rw [if_pos (by omega)]; exact hf
/-- Bytes in a block of the call's own, or none. -/
def OwnB (w : World) (base : Nat) (A : Option Addr) (n cap : Nat) (l : List Int) : Prop := RowN w base 5 1 A n cap (vals l) ∧ l.length = n ∧ ∀ k, k < l.length → U8 (l.getD k 0)
theorem OwnB.nil (w : World) (base : Nat) : OwnB w base none 0 0 [] := ⟨RowN.nil _ _ _ _, rfl, fun k hk => absurd hk (by simp)⟩
theorem OwnB.same {w w' : World} {base : Nat} {A : Option Addr} {n cap : Nat} {l : List Int} (h : OwnB w base A n cap l) (k : ∀ a, A = some a → w'.heap[a.block]? = w.heap[a.block]?) : OwnB w' base A n cap l := ⟨h.1.same k, h.2⟩
theorem OwnB.below {w w' : World} {base : Nat} {A : Option Addr} {n cap : Nat} {l : List Int} (h : OwnB w base A n cap l) (b : Below w.heap.size w w') : OwnB w' base A n cap l := ⟨h.1.below b, h.2⟩
theorem OwnB.reads {w : World} {base : Nat} {A : Option Addr} {n cap : Nat} {l : List Int} (h : OwnB w base A n cap l) : RdB w w.heap.size A l := fun k hk => by
  obtain ⟨g, e, h1⟩ := h.1.at (by rw [← h.2.1]; omega)
  refine ⟨g, 0, e, (h.1.lt _ e).2, ?_, h.2.2 k hk⟩
  rw [Nat.zero_add, (h1 k).2 (by have := h.2.1; omega)]
  exact vals_at _ _ hk
theorem vals_app (xs ys : List Int) : vals (xs ++ ys) = vals xs ++ vals ys := by unfold vals; rw [List.map_append]
/-- Many bytes more, in a round. -/
theorem app_in_b {F : Fence} {m : Nat} (w : World) {ops : Array Oper} {rs : List Oper} {o : Oper} {a : Act} {Q : Exit → Act → World → Prop} (hgd : o.guard = none)
    (s x : Operand) (ho : o.op = .call { callee := .builtin .append, args := #[s, x], argTypes := #[30, 30] })
    (base n cap : Nat) (A : Option Addr) (l : List Int) (hs : a.eval s = .slice A n cap) (hown : OwnB w base A n cap l)
    (g k c : Nat) (B : Nat) (ys : List Int) (hx : a.eval x = .slice (some ⟨g, 0, none⟩) k c) (hr : RdB w B (some ⟨g, 0, none⟩) ys) (hk : ys.length = k)
    (hl : n + k ≤ 1000000) (hbase : base ≤ w.heap.size)
    (h : ∀ A' cap' w', OwnB w' base A' (n + k) cap' (l ++ ys) → w.grownBy w' (Value.slice A n cap).ownBlock → wpListIn F m Try.prog ops Q rs (a.put o.dst (.slice A' (n + k) cap')) w') :
    wpListIn F m Try.prog ops Q (o :: rs) a w := by
  obtain ⟨i0, hi, hz0, hz1, hz2⟩ := info_parts Try.info_byte
  have hsrc : ∀ (j : Nat) (u : Value), (vals ys)[j]? = some u → w.cell? ((⟨g, 0, none⟩ : Addr).add j) = some u := fun j u hu => by
    have hj : j < ys.length := by
      rcases Nat.lt_or_ge j ys.length with e | e
      · exact e
      · rw [List.getElem?_eq_none (by rw [vals_length]; exact e)] at hu; cases hu
    obtain ⟨b', o', e1, _, e2, _⟩ := hr j hj
    injection e1 with e1; injection e1 with e1 e3; subst e1 e3
    rw [Addr.add_mid, e2, ← hu, vals_at _ _ hj]
  refine wpListIn_append_own w hgd s x 30 ho base 5 i0 _ 1 1 Try.underlying30 hi hz0 hz1 hz2 rfl (by decide) _ n (vals l) hs hown.1 ⟨g, 0, none⟩ k c (vals ys) hx (by rw [vals_length, hk, Nat.mul_one]) hsrc (vals_one ys) (by unfold maxLen; omega) (by omega) hbase ?_
  intro v' w' h1 h2 _
  obtain ⟨A', c', rfl⟩ := row_form h1
  refine h A' c' w' ⟨by rw [vals_app]; exact h1, by rw [List.length_append, hown.2.1, hk], fun i hi => ?_⟩ h2
  rw [List.length_append] at hi
  rw [getD_app]
  split
  · exact hown.2.2 i (by assumption)
  · exact hr.u8s (i - l.length) (by omega)

theorem kpT_set {T : List TypeId} {n₀ q k : Nat} {V : World} {t : TypeId} {vs : List Value} (h : Arr V q t vs) (ht : t ∉ T) (hq : n₀ ≤ q) (v : Value) : KpT T n₀ V (V.setCell ⟨q, k, none⟩ v) :=
  ⟨(Below.refl _ _).setCell (p := ⟨q, k, none⟩) hq v, by rw [setCell_size]; exact Nat.le_refl _, fun j cur t' fr h1 h2 => Below.heap_setCell _ _ _ _ (fun e => by
    have e : j = q := e
    subst e
    unfold Arr at h
    rw [h1] at h
    injection h with h
    injection h with _ h
    subst h
    exact ht h2)⟩
theorem OwnI.far {w : World} {base q k n cap : Nat} {A : Option Addr} {l : List Int} {t : TypeId} {vs : List Value} (h : OwnI w base A n cap l) (ha : Arr w q t vs) (ht : t ≠ 3) (v : Value) : OwnI (w.setCell ⟨q, k, none⟩ v) base A n cap l :=
  h.same (fun a e => Below.heap_setCell _ _ _ _ (h.1.ne (r := q) (T := t) ha ht a e))
theorem Arr.put {W : World} {q D : Nat} {t : TypeId} {vs : List Value} (h : Arr W q t vs) (hK : W.heap[D]? = some (.deferred (some []))) : Arr (W.putObj D (.deferred none)) q t vs :=
  h.same (World.putObj_heap_other (fun e => by subst e; unfold Arr at h; rw [hK] at h; cases h))
theorem OwnI.put {W : World} {base D n cap : Nat} {A : Option Addr} {l : List Int} (h : OwnI W base A n cap l) (hK : W.heap[D]? = some (.deferred (some []))) : OwnI (W.putObj D (.deferred none)) base A n cap l :=
  h.same (fun a ha => World.putObj_heap_other (fun e => by
    obtain ⟨cur, hc⟩ := h.1.kind a ha
    rw [e, hK] at hc; cases hc))
/-- What chain answers. -/
noncomputable def chainS (s : Dk) (f : Fl) : Int := chainEnd (chainP s f)
noncomputable def chainL (s : Dk) (f : Fl) : List Int := if chainS s f = 0 then (chainP s f).map Pt.at_ else []
def ChainE (s : Dk) (f : Fl) (w : World) (e : Ending) (w' : World) : Prop := Below w.heap.size w w' ∧ ∃ A n c, e = .returned (.tuple #[.slice A n c, .int .i64 (chainS s f)]) ∧ OwnI w' w.heap.size A n c (chainL s f)
theorem results_chain (T : Array Value) (w : World) (p q : Nat) (v u : Value) (h4 : T.getD 4 undef = .pointer (some ⟨p, 0, none⟩)) (h5 : T.getD 5 undef = .pointer (some ⟨q, 0, none⟩)) (c4 : w.cell? ⟨p, 0, none⟩ = some v) (c5 : w.cell? ⟨q, 0, none⟩ = some u) : (results Try.f43 T).run Try.prog w = .ok (.tuple #[v, u]) w := by
  have e : Try.f43.results = #[.cell 4 43, .cell 5 25] := rfl
  rw [Array.getD_eq_getD_getElem?] at h4 h5
  unfold results
  rw [e]
  simp [go_sem, h4, h5, c4, c5]
theorem chainP_len {s : Dk} {f : Fl} : (chainP s f).length ≤ f.blocks.toNat + 1 := chainR_len _ _ _ _ _
/-- The invariant of the loop over the parts. -/
structure ChI (w : World) (r4 r5 r6 : Nat) (pre : List PtV) (V : World) : Prop where
  a4 : Arr V r4 43 [.slice none 0 0]
  a5 : Arr V r5 25 [.int .i64 0]
  row : ∃ A n c, Arr V r6 43 [.slice A n c] ∧ OwnI V w.heap.size A n c ((pre.map PtV.pt).map Pt.at_)
  ok : chainEnd (pre.map PtV.pt) = 0
  b : Below w.heap.size w V
theorem chI_own {T : List TypeId} {w : World} {r4 r5 r6 B : Nat} (h4 : r4 < B) (h5 : r5 < B) (h6 : r6 < B) (hw : w.heap.size ≤ B) (hT : 3 ∉ T) : OwnT T B (ChI w r4 r5 r6) := fun pre X Y row hs hg hr => by
  obtain ⟨a4, a5, ⟨A, n, c, a6, ow⟩, ok, b⟩ := hs
  refine ⟨(arr_ownT (β := Unit) h4) () X Y row a4 hg hr, (arr_ownT (β := Unit) h5) () X Y row a5 hg hr, ⟨A, n, c, (arr_ownT (β := Unit) h6) () X Y row a6 hg hr, ow.same (fun a ha => ?_)⟩, ok, (ownT_below (β := Unit) hw (Nat.le_refl _)) () X Y row b hg hr⟩
  obtain ⟨cur, hc⟩ := ow.1.kind a ha
  exact Turn.other hg hr hc (Or.inr hT)
theorem ChI.below {w V V' : World} {r4 r5 r6 : Nat} {pre : List PtV} (h : ChI w r4 r5 r6 pre V) (hb : Below V.heap.size V V') : ChI w r4 r5 r6 pre V' := by
  obtain ⟨a4, a5, ⟨A, n, c, a6, ow⟩, ok, b⟩ := h
  exact ⟨a4.below hb, a5.below hb, ⟨A, n, c, a6.below hb, ow.below hb⟩, ok, b.trans (hb.mono b.size)⟩
def ChX (w : World) (r4 r5 : Nat) (c : Code) (pre : List PtV) (V : World) : Prop := c = .ret ∧ (chainEnd (pre.map PtV.pt) ≠ 0 ∧ Arr V r4 43 [.slice none 0 0] ∧ Arr V r5 25 [.int .i64 (chainEnd (pre.map PtV.pt))]) ∧ Below w.heap.size w V
theorem chX_own {T : List TypeId} {w : World} {r4 r5 B : Nat} (h4 : r4 < B) (h5 : r5 < B) (hw : w.heap.size ≤ B) (c : Code) : OwnT T B (ChX w r4 r5 c) := fun pre X Y row hs hg hr => by
  obtain ⟨e, ⟨ne, a4, a5⟩, b⟩ := hs
  exact ⟨e, ⟨ne, (arr_ownT (β := Unit) h4) () X Y row a4 hg hr, (arr_ownT (β := Unit) h5) () X Y row a5 hg hr⟩, (ownT_below (β := Unit) hw (Nat.le_refl _)) () X Y row b hg hr⟩
theorem chainEnd_app {l r : List Pt} (h : chainEnd l ≠ 0) : chainEnd (l ++ r) = chainEnd l := by
  induction l with
  | nil => exact absurd rfl h
  | cons p l ih =>
    unfold chainEnd at h
    show (if p.st = 0 then chainEnd (l ++ r) else p.st) = (if p.st = 0 then chainEnd l else p.st)
    split
    · rename_i e; rw [if_pos e] at h; exact ih h
    · rfl
set_option maxHeartbeats 4000000 in
theorem chain_any (F b s) (f : Fl) (w : World) (h : StAt w F b s) (hf : f.Ok) (hw : s.dk.wt.length ≤ 1000000) (hbl : f.blocks ≤ 100000) :
    Calls Try.prog 43 #[.pointer (some ⟨b, 0, none⟩), .agg #[.int .i64 f.name, .int .i64 f.file, .int .i64 f.first, .int .i64 f.blocks]] w (ChainE s.dk f w) := by
  have H := Lib.hid h; have HFO := Lib.hid hf
  have HFN : Hid (∀ q, F q → q < w.heap.size) := Lib.hid h.lt
  have OKD := Lib.hid h.dok
  clear h hf
  refine (callsIn_wide (n := 5)).1 ?_
  refine callsIn_of_wp_marks Try.func43 rfl trivial ?_ rfl
  simp only [Try.ntmps43, List.size_toArray, List.length_cons, List.length_nil, Nat.reduceAdd, Nat.reduceSub, Array.replicate_succ, Array.replicate_zero, List.push_toArray, List.append_toArray, List.nil_append, List.cons_append]
  refine wpIn_wide.2 ?_
  go_upto_region 2 with fail
  have v0 := FlV.new w f
  have a4 := Arr.new (w.alloc (.cells #[.int .i64 f.name, .int .i64 f.file, .int .i64 f.first, .int .i64 f.blocks] 40)) 43 [.slice none 0 0]
  have a5 := Arr.new ((w.alloc (.cells #[.int .i64 f.name, .int .i64 f.file, .int .i64 f.first, .int .i64 f.blocks] 40)).alloc (.cells #[.slice none 0 0] 43)) 25 [.int .i64 0]
  have a6 := Arr.new (((w.alloc (.cells #[.int .i64 f.name, .int .i64 f.file, .int .i64 f.first, .int .i64 f.blocks] 40)).alloc (.cells #[.slice none 0 0] 43)).alloc (.cells #[.int .i64 0] 25)) 43 [.slice none 0 0]
  have b1 := ((((Below.refl _ w).alloc (Nat.le_refl _) (.cells #[.int .i64 f.name, .int .i64 f.file, .int .i64 f.first, .int .i64 f.blocks] 40)).alloc (by simp) (.cells #[.slice none 0 0] 43)).alloc (by simp; omega) (.cells #[.int .i64 0] 25)).alloc (by simp; omega) (.cells #[.slice none 0 0] 43)
  have V0 := ((Arr.below (Arr.below (Arr.below v0 ((Below.refl _ _).alloc (Nat.le_refl _) (.cells #[.slice none 0 0] 43))) ((Below.refl _ _).alloc (Nat.le_refl _) (.cells #[.int .i64 0] 25))) ((Below.refl _ _).alloc (Nat.le_refl _) (.cells #[.slice none 0 0] 43))))
  have A4 := (a4.below ((Below.refl _ _).alloc (Nat.le_refl _) (.cells #[.int .i64 0] 25))).below ((Below.refl _ _).alloc (Nat.le_refl _) (.cells #[.slice none 0 0] 43))
  have A5 := a5.below ((Below.refl _ _).alloc (Nat.le_refl _) (.cells #[.slice none 0 0] 43))
  simp only [World.size_alloc] at A4 A5 a6
  clear v0 a4 a5
  obtain ⟨W1, hW1⟩ : ∃ W1, W1 = (((w.alloc (.cells #[.int .i64 f.name, .int .i64 f.file, .int .i64 f.first, .int .i64 f.blocks] 40)).alloc (.cells #[.slice none 0 0] 43)).alloc (.cells #[.int .i64 0] 25)).alloc (.cells #[.slice none 0 0] 43) := ⟨_, rfl⟩
  rw [← hW1] at V0 A4 A5 a6 b1 ⊢
  obtain ⟨r6, h6⟩ : ∃ r, r = w.heap.size + 1 + 1 + 1 := ⟨_, rfl⟩
  obtain ⟨r5, h5⟩ : ∃ r, r = w.heap.size + 1 + 1 := ⟨_, rfl⟩
  obtain ⟨r4, h4⟩ : ∃ r, r = w.heap.size + 1 := ⟨_, rfl⟩
  rw [← h6] at a6 ⊢
  rw [← h5] at A5 ⊢
  rw [← h4] at A4 ⊢
  have i3 : w.heap.size < r4 := by omega
  have i4 : r4 < r5 := by omega
  have i5 : r5 < r6 := by omega
  clear h6 h5 h4 hW1
  have i6 : r6 < W1.heap.size := a6.lt
  have S1 := Lib.hid (H.out.below b1)
  have V1 := Lib.hid V0; have A4 := Lib.hid A4; have A5 := Lib.hid A5; have A6 := Lib.hid a6; have B1 := Lib.hid b1
  clear V0 a6 b1 H
  obtain ⟨y0, y1, y2, y3⟩ := FlV.cells V1.out
  have PA := Lib.hid (parts_any b f W1)
  go_wp2_with fail
  refine PA.out.mono ?_
  rintro e W2 ⟨Bf2, Bs2, rfl, hv2, hc2, b2⟩
  have hW2s : W1.heap.size ≤ W2.heap.size := b2.size
  have hw2 : w.heap.size ≤ W2.heap.size := by omega
  have SQ := Lib.hid (parts_seq F b s f Bf2 Bs2 W2 (S1.out.below b2) HFO.out hv2 hc2 hw w.heap.size hw2 HFN.out partsT (fun t ht => ht))
  have I0 : Hid (ChI w r4 r5 r6 [] W2) := Lib.hid ⟨A4.out.below b2, A5.out.below b2, ⟨none, 0, 0, A6.out.below b2, OwnI.nil _ _⟩, rfl, B1.out.trans (b2.mono B1.out.size)⟩
  clear PA y0 y1 y2 y3 b2 hv2 hc2 S1 V1 A4 A5 A6 B1
  go_wp2_with fail
  refine (wpIn_wide (n := 5)).1 ?_
  refine range_R (m := 5) (gf := 51) (lb := #[.pointer (some ⟨Bf2, 0, none⟩), .pointer (some ⟨Bs2, 0, none⟩)]) rfl (enters_of Try.func51 (by kernel_rfl) rfl)
    SQ.out KpT.trans (KpT.put hw2) (Below.refl _ _) (fun _ => rfl)
    (fun pre V => ChI w r4 r5 r6 pre V ∧ W2.heap.size ≤ V.heap.size)
    (ChX w r4 r5)
    ((chI_own (by omega) (by omega) (by omega) hw2 (by decide)).and size_ownT)
    (fun c => chX_own (by omega) (by omega) hw2 c)
    ⟨I0.out, Nat.le_refl _⟩
    (fun pre x a' V => ∃ p, W2.heap.size ≤ p ∧ Arr V p 88 [.int .i64 x.at_, .slice x.A x.n x.cap] ∧ (PtNext (chainP s.dk f) pre x ∧ (x.st = 0 → 2 ≤ x.at_ ∧ x.at_ < 512) ∧ 0 ≤ x.st ∧ x.st ≤ 7) ∧ a' = { tmps := #[.pointer (some ⟨b, 0, none⟩), .agg #[.int .i64 f.name, .int .i64 f.file, .int .i64 f.first, .int .i64 f.blocks], undef, .pointer (some ⟨w.heap.size, 0, none⟩), .pointer (some ⟨r4, 0, none⟩), .pointer (some ⟨r5, 0, none⟩), .pointer (some ⟨r6, 0, none⟩), .pointer (some ⟨p, 0, none⟩), .int .i64 x.st, .pointer (some ⟨b, 0, none⟩), .agg #[.int .i64 f.name, .int .i64 f.file, .int .i64 f.first, .int .i64 f.blocks], .func (.func 51) #[] #[.pointer (some ⟨Bf2, 0, none⟩), .pointer (some ⟨Bs2, 0, none⟩)], .agg #[.int .i64 x.at_, .slice x.A x.n x.cap], .int .i64 x.st, undef, undef, undef, undef, undef, undef, undef, undef, undef], defers := [] })
    (fun pre x a' _ X Y row hs hg hr => by obtain ⟨p, h1, h2, h3⟩ := hs; exact ⟨p, h1, h2.kept hg hr, h3⟩)
    ?assign ?body ?done ?stop
  case assign =>
    rintro l2 pre x V K ⟨hi, hn2⟩ ⟨hR, hN⟩ hK
    have HK := Lib.hid hK; have HI := Lib.hid hi
    have HN : Hid (PtNext (chainP s.dk f) pre x ∧ (x.st = 0 → 2 ≤ x.at_ ∧ x.at_ < 512) ∧ 0 ≤ x.st ∧ x.st ≤ 7) := Lib.hid ⟨hN, by
      rcases hR with ⟨h1, g, h2, h3, h5⟩ | ⟨h1, _, _, _, _, h6⟩
      · exact ⟨fun _ => ⟨h3.2.2.1, h3.2.2.2⟩, by omega, by omega⟩
      · exact ⟨fun e => absurd e h1, by omega, by omega⟩⟩
    clear hK hR hN hi
    unfold ptEncs
    gi_wp2
    exact HK.out _ _ ((KeepsOthers.alloc _ _).from _) (KpT.of_below ((Below.refl _ V).alloc (Nat.le_refl _) _) (by omega)) ⟨HI.out.below ((Below.refl _ V).alloc (Nat.le_refl _) _), by simp; omega⟩ ⟨V.heap.size, hn2, Arr.new V _ _, HN.out, rfl⟩
  case body =>
    rintro l2 pre x a' V hl ⟨r, hr⟩ ⟨hi, hn2⟩ ⟨p, hp, hP, ⟨hN, hat, hs0, hs7⟩, rfl⟩
    obtain ⟨a4, a5, ⟨A, n, c, a6, ow⟩, ok, bb⟩ := hi
    have HN := Lib.hid hN; have HOK := Lib.hid ok; have HB := Lib.hid bb; have OW := Lib.hid ow
    have A4 := Lib.hid a4; have A5 := Lib.hid a5; have A6 := Lib.hid a6; have HP := Lib.hid hP
    have hVs : w.heap.size ≤ V.heap.size := by omega
    clear hr hN ok bb ow hP a4 a5 a6
    by_cases hx : x.st = 0
    · obtain ⟨at0, at1⟩ := hat hx
      have ne : (x.st != 0) = false := by simp [hx]
      have hlen : n ≤ 100001 := by
        obtain ⟨post, h1⟩ := HN.out
        have h2 := congrArg List.length h1
        have h3 := @chainP_len s.dk f
        have h4 := OW.out.2.1
        simp at h2 h4
        omega
      have c6 := A6.out.cell 0
      have c6 : V.cell? ⟨r6, 0, none⟩ = some (.slice A n c) := c6
      have p0 : V.cell? ⟨p, 0, none⟩ = some (.int .i64 x.at_) := HP.out.cell 0
      have z6 := A6.out.frozen 0
      have E0 : Hid (chainEnd ((pre ++ [x]).map PtV.pt) = 0) := Lib.hid (by rw [List.map_append]; exact (chainEnd_snoc _ _ HOK.out).trans hx)
      clear hx hat
      gi_wp2_with (gi_at_builtin; refine app_in_i _ rfl _ _ rfl w.heap.size n c A _ rfl (OW.out.below ((Below.refl _ V).alloc (Nat.le_refl _) _)) V.heap.size 1 x.at_ rfl (by have := Arr.cell (Arr.new V 3 [.int .i64 x.at_]) 0; exact this) ⟨by omega, by omega⟩ (by omega) (by simp; omega) ?_)
      intro A' cap' w' ow2 hg
      have bV := (Below.refl _ V).alloc (Nat.le_refl _) (.cells #[.int .i64 x.at_] 3)
      have OWa := OW.out.below bV
      have B6 := Lib.hid (arr_grown (A6.out.below bV) hg OWa.1 (by decide))
      have B4 := Lib.hid (arr_grown (A4.out.below bV) hg OWa.1 (by decide))
      have B5 := Lib.hid (arr_grown (A5.out.below bV) hg OWa.1 (by decide))
      have KP := Lib.hid ((KpT.of_below (T := partsT) bV (by omega : w.heap.size ≤ V.heap.size)).trans (kpT_grown hg OWa.1 (Nat.le_refl _) (by decide) (by simp; omega)))
      have KO := Lib.hid ((KeepsOthers.alloc V (.cells #[.int .i64 x.at_] 3)).trans (others_grown hg OWa.1))
      have HB2 := Lib.hid (HB.out.trans KP.out.1)
      have OW2 : Hid (OwnI w' w.heap.size A' (n + 1) cap' (((pre ++ [x]).map PtV.pt).map Pt.at_)) := Lib.hid (by
        have e : ((pre ++ [x]).map PtV.pt).map Pt.at_ = (pre.map PtV.pt).map Pt.at_ ++ [x.at_] := by simp [PtV.pt]
        rw [e]; simpa using ow2)
      have c6 : w'.cell? ⟨r6, 0, none⟩ = some (.slice A n c) := B6.out.cell 0
      have z6 := B6.out.frozen 0
      have hV' : V.heap.size ≤ w'.heap.size := KP.out.2.1
      clear bV OWa ow2 hg
      gi_wp2
      exact ⟨(KO.out.trans (KeepsOthers.setCell _ _ _)).from _, KP.out.trans (kpT_set B6.out (by decide) (by omega) _), ⟨B4.out.far (by omega) _, B5.out.far (by omega) _, ⟨A', n + 1, cap', B6.out.set 0 _, OW2.out.far B6.out (by decide) _⟩, E0.out, HB2.out.setCell (p := ⟨r6, 0, none⟩) (by show w.heap.size ≤ r6; omega) _⟩, by rw [setCell_size]; omega⟩
    · have ne : (x.st != 0) = true := by rw [bne_iff_ne]; exact hx
      have z4 := A4.out.frozen 0; have z5 := A5.out.frozen 0
      have c4 : V.cell? ⟨r4, 0, none⟩ = some (.slice none 0 0) := A4.out.cell 0
      have c5 : V.cell? ⟨r5, 0, none⟩ = some (.int .i64 0) := A5.out.cell 0
      have E0 : Hid (chainEnd ((pre ++ [x]).map PtV.pt) = x.st) := Lib.hid (by rw [List.map_append]; exact chainEnd_snoc _ _ HOK.out)
      have HX := Lib.hid hx
      clear hx hat
      gi_wp2
      have x4 := (A4.out.set 0 (.slice none 0 0)).far (h := r4) (g := r5) (k := 0) (by omega) (.int .i64 x.st)
      have x5 := (A5.out.far (g := r4) (k := 0) (by omega) (.slice none 0 0)).set 0 (.int .i64 x.st)
      refine ⟨((KeepsOthers.setCell _ _ _).trans (KeepsOthers.setCell _ _ _)).from _, rfl, ⟨by rw [E0.out]; exact HX.out, x4, by rw [E0.out]; exact x5⟩, (HB.out.setCell (p := ⟨r4, 0, none⟩) (by show w.heap.size ≤ r4; omega) _).setCell (p := ⟨r5, 0, none⟩) (by show w.heap.size ≤ r5; omega) _⟩
  case done =>
    rintro D xs V hD hS ⟨⟨a4, a5, ⟨A, n, c, a6, ow⟩, ok, bb⟩, hs⟩ hK
    have HS := Lib.hid hS; have HK := Lib.hid hK; have HOK := Lib.hid ok; have HB := Lib.hid bb; have OW := Lib.hid ow
    have A4 := Lib.hid a4; have A5 := Lib.hid a5; have A6 := Lib.hid a6
    have c6 : V.cell? ⟨r6, 0, none⟩ = some (.slice A n c) := a6.cell 0
    have z4 := a4.frozen 0; have z5 := a5.frozen 0
    have c4 : V.cell? ⟨r4, 0, none⟩ = some (.slice none 0 0) := a4.cell 0
    have c5 : V.cell? ⟨r5, 0, none⟩ = some (.int .i64 0) := a5.cell 0
    clear hS hK ok bb ow a4 a5 a6
    go_wp2
    have x4 := (A4.out.set 0 (.slice A n c)).far (h := r4) (g := r5) (k := 0) (by omega) (.int .i64 0)
    have x5 := (A5.out.far (g := r4) (k := 0) (by omega) (.slice A n c)).set 0 (.int .i64 0)
    have ow := (OW.out.far A4.out (by decide) (.slice A n c) (k := 0)).far (A5.out.far (g := r4) (k := 0) (by omega) (.slice A n c)) (by decide) (.int .i64 0) (k := 0)
    have hb := (HB.out.setCell (p := ⟨r4, 0, none⟩) (by show w.heap.size ≤ r4; omega) (.slice A n c)).setCell (p := ⟨r5, 0, none⟩) (by show w.heap.size ≤ r5; omega) (.int .i64 0)
    have hk : ((V.setCell ⟨r4, 0, none⟩ (.slice A n c)).setCell ⟨r5, 0, none⟩ (.int .i64 0)).heap[D]? = some (.deferred (some [])) := by
      rw [Below.heap_setCell _ _ _ _ (fun e => by have e : D = r5 := e; omega), Below.heap_setCell _ _ _ _ (fun e => by have e : D = r4 := e; omega)]
      exact HK.out
    generalize (V.setCell ⟨r4, 0, none⟩ (.slice A n c)).setCell ⟨r5, 0, none⟩ (.int .i64 0) = V2 at x4 x5 ow hb hk ⊢
    refine ⟨by simp, .inl ⟨_, _, rfl, run_takeDeferred hk, ?_⟩⟩
    have e0 : chainS s.dk f = 0 := by unfold chainS; rw [← HS.out]; exact HOK.out
    refine ⟨_, results_chain _ _ r4 r5 _ _ rfl rfl ((x4.put hk).cell 0) ((x5.put hk).cell 0), below_put hb (by omega) hk, A, n, c, by rw [e0], ?_⟩
    have e1 : chainL s.dk f = (xs.map PtV.pt).map Pt.at_ := by unfold chainL; rw [if_pos e0, ← HS.out]
    rw [e1]
    exact ow.put hk
  case stop =>
    rintro D c pre V hD hSp ⟨rfl, ⟨hne, a4, a5⟩, bb⟩ hK
    refine wpIn_wide.2 ?_
    have HS := Lib.hid hSp; have HK := Lib.hid hK; have HNE := Lib.hid hne; have A4 := Lib.hid a4; have A5 := Lib.hid a5; have HB := Lib.hid bb
    clear hSp hK hne a4 a5 bb
    go_wp2
    refine ⟨by simp, .inl ⟨_, _, rfl, run_takeDeferred HK.out, ?_⟩⟩
    have e0 : chainS s.dk f = chainEnd (pre.map PtV.pt) := by
      obtain ⟨post, h1⟩ := HS.out
      unfold chainS
      rw [← h1]
      exact chainEnd_app HNE.out
    have e1 : chainL s.dk f = [] := by unfold chainL; rw [if_neg (by rw [e0]; exact HNE.out)]
    refine ⟨_, results_chain _ _ r4 r5 _ _ rfl rfl ((A4.out.put HK.out).cell 0) ((A5.out.put HK.out).cell 0), below_put HB.out (by omega) HK.out, none, 0, 0, by rw [e0], ?_⟩
    rw [e1]
    exact OwnI.nil _ _
end Go.Proofs.Ytilmicekpclmbaa
namespace Go.Proofs.Ytilmicekpclmbaa
set_option linter.unusedVariables false
set_option linter.unusedSimpArgs false
set_option maxRecDepth 100000
open Go.RowKit

/-- Which blocks are free where all but the first two are, up to block i. -/
def mkF (n i : Nat) : List Bool := (List.range n).map (fun k => decide (2 ≤ k ∧ k < i))
def allF (n : Nat) : List Bool := (List.range n).map (fun k => decide (2 ≤ k))
theorem mkF_len (n i : Nat) : (mkF n i).length = n := by unfold mkF; simp
theorem allF_len (n : Nat) : (allF n).length = n := by unfold allF; simp
theorem mkF_two (n : Nat) : mkF n 2 = List.replicate n false := by
  unfold mkF
  apply List.ext_getElem
  · simp
  · intro i h1 h2
    simp
theorem mkF_succ (n i : Nat) (h2 : 2 ≤ i) (hi : i < n) : mkF n (i + 1) = (mkF n i).set i true := by
  unfold mkF
  apply List.ext_getElem
  · simp
  · intro k h1 h2
    simp only [List.getElem_map, List.getElem_range, List.getElem_set]
    split
    · rename_i e; subst e; simp; omega
    · rename_i e; rw [decide_eq_decide]; omega
theorem mkF_all (n i : Nat) (h : n ≤ i) : mkF n i = allF n := by
  unfold mkF allF
  apply List.ext_getElem
  · simp
  · intro k h1 h2
    simp only [List.getElem_map, List.getElem_range]
    simp at h1
    rw [decide_eq_decide]; omega
theorem made_bools (n : Nat) : (madeCells (Value.bool false).cells (n * 1)).toList = bvals (List.replicate n false) := by
  apply List.ext_getElem?
  intro i
  unfold madeCells bvals
  simp [Value.cells, List.getElem?_replicate]
  by_cases h : i < n
  · rw [List.getElem?_range h]
    simp [h, Nat.mod_one]
  · rw [List.getElem?_eq_none (by simp; omega)]
    simp [h]
/-- A row of bools that a call made. -/
def OwnL (w : World) (base : Nat) (A : Option Addr) (n c : Nat) (l : List Bool) : Prop := RowN w base 4 1 A n c (bvals l) ∧ l.length = n
theorem OwnL.cell {w : World} {base g n c : Nat} {l : List Bool} (h : OwnL w base (some ⟨g, 0, none⟩) n c l) (i : Nat) (hi : i < n) : w.cell? ⟨g, i, none⟩ = some (.bool (l.getD i false)) := by
  obtain ⟨g', e, h1⟩ := h.1.at (by omega)
  injection e with e
  injection e with e
  subst e
  rw [(h1 i).2 (by omega)]
  exact bvals_at l i (by rw [h.2]; exact hi)
theorem OwnL.frozen {w : World} {base g n c : Nat} {l : List Bool} (h : OwnL w base (some ⟨g, 0, none⟩) n c l) (hn : 0 < n) (k : Nat) : w.frozen? ⟨g, k, none⟩ = false := by
  obtain ⟨g', e, h1⟩ := h.1.at hn
  injection e with e
  injection e with e
  subst e
  exact (h1 k).1
theorem OwnL.set {w : World} {base g n c : Nat} {l : List Bool} (h : OwnL w base (some ⟨g, 0, none⟩) n c l) (i : Nat) (x : Bool) : OwnL (w.setCell ⟨g, i, none⟩ (.bool x)) base (some ⟨g, 0, none⟩) n c (l.set i x) := by
  refine ⟨?_, by rw [List.length_set]; exact h.2⟩
  rw [← bvals_set]
  exact h.1.set _ _
theorem OwnL.below {w w' : World} {base n c : Nat} {A : Option Addr} {l : List Bool} (h : OwnL w base A n c l) (b : Below w.heap.size w w') : OwnL w' base A n c l := ⟨h.1.below b, h.2⟩
theorem OwnL.same {w w' : World} {base n c : Nat} {A : Option Addr} {l : List Bool} (h : OwnL w base A n c l) (k : ∀ a, A = some a → w'.heap[a.block]? = w.heap[a.block]?) : OwnL w' base A n c l := ⟨h.1.same k, h.2⟩
theorem OwnL.nn {w : World} {base n c : Nat} {A : Option Addr} {l : List Bool} (h : OwnL w base A n c l) (hn : 0 < n) : ∃ g, A = some ⟨g, 0, none⟩ := by
  obtain ⟨g, e, _⟩ := h.1.at hn
  exact ⟨g, e⟩
set_option maxHeartbeats 1000000 in
theorem allfree_any (n : Nat) (hn : n ≤ 512) (w : World) :
    Calls Try.prog 29 #[.int .i64 n] w fun e w' => ∃ g c, e = .returned (.slice (some ⟨g, 0, none⟩) n c) ∧ OwnL w' w.heap.size (some ⟨g, 0, none⟩) n c (allF n) ∧ Below w.heap.size w w' := by
  obtain ⟨j0, hj0, hz0, hz1, hz2⟩ := info_parts Try.info_bool
  have HJ := Lib.hid hj0; have HZ0 := Lib.hid hz0; have HZ1 := Lib.hid hz1; have HZ2 := Lib.hid hz2
  clear hj0 hz0 hz1 hz2
  go_enter Try.func29, Try.ntmps29
  go_wp2_with (with_reducible refine wpList_make_full w rfl _ _ 72 rfl w.heap.size 4 j0 _ 1 Try.underlying72 HJ.out HZ0.out HZ1.out .i64 .i64 n n n rfl rfl rfl rfl (by rw [HZ2.out]; omega) (by unfold maxLen; omega) (Nat.le_refl _) ?_)
  intro w1 ho hg
  obtain ⟨g, hgq⟩ : ∃ g, g = w.heap.size := ⟨_, rfl⟩
  have O1 : Hid (OwnL w1 w.heap.size (some ⟨g, 0, none⟩) n n (mkF n 2)) := Lib.hid ⟨by
    have e := made_bools n
    rw [Nat.mul_one] at e
    rw [mkF_two, ← e, hgq]
    exact ho, mkF_len _ _⟩
  have B1 : Hid (Below w.heap.size w w1) := Lib.hid (Below.grown (Below.refl _ _) hg (Nat.le_refl _) (fun k hk => by cases hk))
  rw [← hgq]
  have hgw : w.heap.size ≤ g := by omega
  clear ho hg hgq
  go_wp2
  go_loopw [4] (fun iv wr => ∃ i : Nat, 2 ≤ i ∧ (i ≤ n ∨ i = 2) ∧ iv = .int .i64 i ∧ OwnL wr w.heap.size (some ⟨g, 0, none⟩) n n (mkF n i) ∧ Keep (· = g) w1 wr) (fun iv _ => n - (intOf iv).toNat)
  case atStart => exact ⟨2, by decide, Or.inr rfl, rfl, O1.out, Keep.refl _ _⟩
  case round =>
    obtain ⟨i, hi2, hi, rfl, ow, kp⟩ := hrel
    have OW := Lib.hid ow; have KP := Lib.hid kp
    clear ow kp
    by_cases hlt : i < n
    · have i1 : decide ((i : Int) < (n : Int)) = true := by rw [decide_eq_true_eq]; omega
      have i2 : (i : Int) < (n : Int) := by omega
      have i3 : (0 : Int) ≤ (i : Int) := by omega
      have c0 := OW.out.cell i hlt
      have z0 := OW.out.frozen (by omega) i
      have NX := Lib.hid (mkF_succ n i hi2 hlt)
      go_wp2
      go_roundw
      case rel => exact ⟨i + 1, by omega, Or.inl (by omega), by go_num, by rw [NX.out]; exact OW.out.set i true, KP.out.setCell rfl _⟩
      case measure => simp [intOf]; omega
    · have i1 : decide ((i : Int) < (n : Int)) = false := by rw [decide_eq_false_iff_not]; omega
      go_wp2
      go_ret
      refine ⟨g, n, rfl, ?_, KP.out.below (fun k hk => by omega) B1.out B1.out.size⟩
      have := OW.out
      rw [mkF_all n i (by omega)] at this
      exact this
def cntT (l : List Bool) : Nat := (l.filter (fun x => x)).length
theorem cntT_snoc (l : List Bool) (x : Bool) : cntT (l ++ [x]) = cntT l + if x then 1 else 0 := by unfold cntT; rw [List.filter_append, List.length_append]; cases x <;> rfl
theorem cntT_le (l : List Bool) : cntT l ≤ l.length := List.length_filter_le _ _
theorem take_snocB (l : List Bool) (k : Nat) (h : k < l.length) : l.take (k + 1) = l.take k ++ [l.getD k false] := by
  rw [List.take_succ_eq_append_getElem h, List.getD_eq_getElem?_getD, List.getElem?_eq_getElem h]; rfl
set_option maxHeartbeats 1000000 in
theorem free_any (F b s) (w : World) (h : StAt w F b s) (hn : s.free.length ≤ 512) :
    Calls Try.prog 11 #[.pointer (some ⟨b, 0, none⟩)] w fun e w' => e = .returned (.int .i64 (cntT s.free)) ∧ w = w' := by
  obtain ⟨Fd, d, A, n, c, G, k, hl⟩ := h
  obtain ⟨-, -, -, -, -, c12⟩ := hl.cells
  have OL : Hid (OwnL w 0 G s.free.length k s.free) := Lib.hid ⟨hl.fr, rfl⟩
  clear hl
  generalize s.free = l at *
  obtain ⟨m, hm⟩ : ∃ m, l.length = m := ⟨_, rfl⟩
  have HM := Lib.hid hm
  rw [hm] at c12 OL hn
  clear hm
  go_enter Try.func11, Try.ntmps11
  go_wp2
  go_loop [3, 11] (fun nv jv => ∃ j : Nat, j ≤ m ∧ jv = .int .i64 j ∧ nv = .int .i64 (cntT (l.take j))) (fun _ jv => m - (intOf jv).toNat)
  case atStart => exact ⟨0, Nat.zero_le _, rfl, rfl⟩
  case round =>
    obtain ⟨j, hj, rfl, rfl⟩ := hrel
    have TL := Lib.hid (cntT_le (l.take j))
    have tl : (cntT (l.take j)) ≤ 512 := by have := TL.out; rw [List.length_take] at this; omega
    by_cases hlt : j < m
    · have i1 : decide ((j : Int) < (m : Int)) = true := by rw [decide_eq_true_eq]; omega
      have i2 : (j : Int) < (m : Int) := by omega
      have i3 : (0 : Int) ≤ (j : Int) := by omega
      obtain ⟨g, rfl⟩ := OL.out.nn (by omega)
      have c0 := OL.out.cell j hlt
      have NX := Lib.hid (cntT_snoc (l.take j) (l.getD j false))
      have TS := Lib.hid (take_snocB l j (by rw [HM.out]; exact hlt))
      generalize hx : l.getD j false = x at c0 NX TS
      clear hx
      obtain ⟨q, hq⟩ : ∃ q, cntT (l.take j) = q := ⟨_, rfl⟩
      rw [hq] at NX tl ⊢
      clear hq TL
      cases x
      · go_wp2
        go_round
        case rel => exact ⟨j + 1, by omega, by go_num, by rw [TS.out, NX.out]; rfl⟩
        case measure => simp [intOf]; omega
      · go_wp2
        go_round
        case rel => exact ⟨j + 1, by omega, by go_num, by rw [TS.out, NX.out]; go_num⟩
        case measure => simp [intOf]; omega
    · obtain rfl : j = m := by omega
      have i1 : decide ((j : Int) < (j : Int)) = false := by simp
      have E : Hid (l.take j = l) := Lib.hid (List.take_of_length_le (by rw [HM.out]; exact Nat.le_refl _))
      go_wp2
      go_ret
      exact ⟨by rw [E.out]; rfl, rfl⟩
/-- The lowest free block. -/
def lowF : List Bool → Option Nat
  | [] => none
  | true :: _ => some 0
  | false :: r => (lowF r).map (· + 1)
theorem lowF_some : ∀ {l : List Bool} {i : Nat}, i < l.length → l.getD i false = true → (∀ j, j < i → l.getD j false = false) → lowF l = some i
  | [], i, h, _, _ => absurd h (by simp)
  | true :: r, i, h, h1, h2 => by
    cases i with
    | zero => rfl
    | succ i => have := h2 0 (by omega); simp at this
  | false :: r, i, h, h1, h2 => by
    cases i with
    | zero => simp at h1
    | succ i =>
      have := lowF_some (l := r) (i := i) (by simpa using h) (by simpa using h1) (fun j hj => by have := h2 (j + 1) (by omega); simpa using this)
      unfold lowF
      rw [this]; rfl
theorem lowF_none : ∀ {l : List Bool}, (∀ j, j < l.length → l.getD j false = false) → lowF l = none
  | [], _ => rfl
  | true :: r, h => by have := h 0 (by simp); simp at this
  | false :: r, h => by
    have := lowF_none (l := r) (fun j hj => by have := h (j + 1) (by simp; omega); simpa using this)
    unfold lowF
    rw [this]; rfl
theorem lowF_is : ∀ {l : List Bool} {i : Nat}, lowF l = some i → i < l.length ∧ l.getD i false = true
  | [], i, h => by cases h
  | true :: r, i, h => by injection h with h; subst h; simp
  | false :: r, i, h => by
    unfold lowF at h
    cases hr : lowF r with
    | none => rw [hr] at h; cases h
    | some k =>
      rw [hr] at h
      injection h with h
      have := lowF_is hr
      subst h
      simp; simpa using this
def lowI (l : List Bool) : Int := match lowF l with | none => -1 | some i => i
theorem index_any (l : List Bool) (n c base : Nat) (A : Option Addr) (w : World) (h : OwnL w base A n c l) (hn : n ≤ 512) :
    Calls Try.prog 71 #[.slice A n c, .bool true] w fun e w' => e = .returned (.int .i64 (lowI l)) ∧ w = w' := by
  have OL := Lib.hid h
  clear h
  go_enter Try.func71, Try.ntmps71
  go_wp2
  go_loop [8] (fun jv => ∃ j : Nat, j ≤ n ∧ jv = .int .i64 j ∧ ∀ i, i < j → l.getD i false = false) (fun jv => n - (intOf jv).toNat)
  case atStart => exact ⟨0, Nat.zero_le _, rfl, fun i hi => absurd hi (by omega)⟩
  case round =>
    obtain ⟨j, hj, rfl, hno⟩ := hrel
    have NO := Lib.hid hno
    clear hno
    by_cases hlt : j < n
    · have i1 : decide ((j : Int) < (n : Int)) = true := by rw [decide_eq_true_eq]; omega
      have i2 : (j : Int) < (n : Int) := by omega
      have i3 : (0 : Int) ≤ (j : Int) := by omega
      obtain ⟨g, rfl⟩ := OL.out.nn (by omega)
      have c0 := OL.out.cell j hlt
      obtain ⟨x, hx⟩ : ∃ x, l.getD j false = x := ⟨_, rfl⟩
      rw [hx] at c0
      have HX := Lib.hid hx
      clear hx
      cases x
      · go_wp2
        go_round
        case rel => exact ⟨j + 1, by omega, by go_num, fun i hi => (Nat.lt_or_ge i j).elim (fun e => NO.out i e) (fun e => by obtain rfl : i = j := Nat.le_antisymm (by omega) e; exact HX.out)⟩
        case measure => simp [intOf]; omega
      · have E : Hid (lowI l = j) := Lib.hid (by unfold lowI; rw [lowF_some (by rw [OL.out.2]; exact hlt) HX.out NO.out])
        go_wp2
        go_ret
        exact ⟨by rw [E.out]; rfl, rfl⟩
    · obtain rfl : j = n := by omega
      have i1 : decide ((j : Int) < (j : Int)) = false := by simp
      have E : Hid (lowI l = -1) := Lib.hid (by unfold lowI; rw [lowF_none (fun i hi => NO.out i (by rw [OL.out.2] at hi; exact hi))])
      go_wp2
      go_ret
      exact ⟨by rw [E.out]; rfl, rfl⟩
/-- The store behind a take. -/
def St.took (s : St) : St := match lowF s.free with | none => s | some i => { s with free := s.free.set i false }
def TakeE (F : Nat → Prop) (b : Nat) (s : St) (w : World) (e : Ending) (w' : World) : Prop :=
  (lowF s.free = none ∧ e = .returned (.tuple #[.int .i64 0, .bool false]) ∧ StAt w' F b s ∧ w = w') ∨
  (∃ i : Nat, lowF s.free = some i ∧ e = .returned (.tuple #[.int .i64 i, .bool true]) ∧ StAt w' F b { s with free := s.free.set i false } ∧ Keep F w w')
set_option maxHeartbeats 1000000 in
theorem take_any (F b s) (w : World) (h : StAt w F b s) (hn : s.free.length ≤ 512) :
    Calls Try.prog 54 #[.pointer (some ⟨b, 0, none⟩)] w (TakeE F b s w) := by
  obtain ⟨Fd, d, A, n, c, G, k, hl⟩ := h
  obtain ⟨-, -, -, -, -, c12⟩ := hl.cells
  have IX := Lib.hid (index_any s.free s.free.length k 0 G w ⟨hl.fr, rfl⟩ hn)
  have HL := Lib.hid hl
  clear hl
  go_enter Try.func54, Try.ntmps54
  go_wp2_with fail
  refine IX.out.mono ?_
  rintro e w2 ⟨rfl, rfl⟩
  clear IX
  cases hf : lowF s.free with
  | none =>
    have e0 : lowI s.free = -1 := by unfold lowI; rw [hf]
    rw [e0]
    have HF := Lib.hid hf
    clear e0 hf
    go_wp2
    go_ret2
    exact Or.inl ⟨HF.out, rfl, ⟨_, _, _, _, _, _, _, HL.out⟩, rfl⟩
  | some i =>
    have e0 : lowI s.free = (i : Int) := by unfold lowI; rw [hf]
    rw [e0]
    have HF := Lib.hid hf
    obtain ⟨i1, i2⟩ := lowF_is hf
    have OL : OwnL w 0 G s.free.length k s.free := ⟨HL.out.fr, rfl⟩
    obtain ⟨g, rfl⟩ := OL.nn (by omega)
    have c0 := OL.cell i i1
    have z0 := OL.frozen (by omega) i
    have n1 : (i : Int) < (s.free.length : Int) := by omega
    have n0 : (0 : Int) ≤ (i : Int) := by omega
    have d0 : decide ((i : Int) < 0) = false := by rw [decide_eq_false_iff_not]; omega
    clear e0 hf i2 OL
    go_wp2
    go_ret2
    exact Or.inr ⟨i, HF.out, rfl, ⟨_, _, _, _, _, _, _, HL.out.mark false⟩, Keep.cellF (a := ⟨g, i, none⟩) (Keep.refl F w) (show F g from HL.out.fG ⟨g, 0, none⟩ rfl) _⟩
end Go.Proofs.Ytilmicekpclmbaa
namespace Go.Proofs.Ytilmicekpclmbaa
set_option linter.unusedVariables false
set_option linter.unusedSimpArgs false
set_option maxRecDepth 100000
open Go.RowKit

theorem names1_any (f : Fl) (nr : Int) (B : Nat) (w : World) (hB : B < w.heap.size) (c : w.cell? ⟨B, 0, none⟩ = some (.int .i64 nr)) :
    Calls Try.prog 56 #[.agg #[.int .i64 f.name, .int .i64 f.file, .int .i64 f.first, .int .i64 f.blocks], .pointer (some ⟨B, 0, none⟩)] w fun e w' => e = .returned (.bool (decide (f.file = nr))) ∧ Below w.heap.size w w' := by
  have b1 := Lib.hid ((Below.refl _ w).alloc (Nat.le_refl _) (.cells #[.int .i64 f.name, .int .i64 f.file, .int .i64 f.first, .int .i64 f.blocks] 40))
  have c2 := ((b1.out).cell (p := ⟨B, 0, none⟩) hB).trans c
  clear c
  obtain ⟨q, hq⟩ : ∃ q, decide (f.file = nr) = q := ⟨_, rfl⟩
  have d0 : (f.file == nr) = q := by rw [← hq]; rw [Bool.eq_iff_iff]; simp
  rw [hq]
  clear hq
  go_enter Try.func56, Try.ntmps56
  go_wp2
  go_ret
  exact ⟨rfl, b1.out⟩
def namesIt (l : List Fl) (nr : Int) : Bool := l.any (fun f => decide (f.file = nr))
theorem namesIt_no {l : List Fl} {nr : Int} (h : ∀ i, i < l.length → (flAt l i).file ≠ nr) : namesIt l nr = false := by
  unfold namesIt
  rw [List.any_eq_false]
  intro f hf
  obtain ⟨i, hi, rfl⟩ := mem_flAt hf
  simpa using h i hi
theorem namesIt_yes {l : List Fl} {nr : Int} {i : Nat} (hi : i < l.length) (h : (flAt l i).file = nr) : namesIt l nr = true := by
  unfold namesIt
  rw [List.any_eq_true]
  exact ⟨flAt l i, flAt_mem hi, by simpa using h⟩
set_option maxHeartbeats 1000000 in
theorem idxf_any (l : List Fl) (nr : Int) (B N : Nat) (A : Option Addr) (n c : Nat) (w : World) (hB : B < w.heap.size) (cb : w.cell? ⟨B, 0, none⟩ = some (.int .i64 nr)) (hl : l.length = n) (hn : n ≤ 1000) (hr : FlR w N A l) (hN : N ≤ w.heap.size) :
    Calls Try.prog 72 #[.slice A n c, .func (.func 56) #[] #[.pointer (some ⟨B, 0, none⟩)]] w fun e w' => ∃ i : Int, e = .returned (.int .i64 i) ∧ -1 ≤ i ∧ i ≤ 1000 ∧ decide (0 ≤ i) = namesIt l nr ∧ Below w.heap.size w w' := by
  have HR := Lib.hid hr; have HL := Lib.hid hl; have CB := Lib.hid cb
  clear hr hl cb
  go_enter Try.func72, Try.ntmps72
  go_wp2
  go_loopw [8] (fun jv wr => ∃ j : Nat, j ≤ n ∧ jv = .int .i64 j ∧ (∀ i, i < j → (flAt l i).file ≠ nr) ∧ Below w.heap.size w wr) (fun jv _ => n - (intOf jv).toNat)
  case atStart => exact ⟨0, Nat.zero_le _, rfl, fun i hi => absurd hi (by omega), Below.refl _ _⟩
  case round =>
    obtain ⟨j, hj, rfl, hno, hb⟩ := hrel
    have NO := Lib.hid hno; have HB := Lib.hid hb
    clear hno hb
    by_cases hlt : j < n
    · have i1 : decide ((j : Int) < (n : Int)) = true := by rw [decide_eq_true_eq]; omega
      have i2 : (j : Int) < (n : Int) := by omega
      have i3 : (0 : Int) ≤ (j : Int) := by omega
      have hf := (HR.out.below (HB.out.mono hN)) j (by rw [HL.out]; exact hlt)
      obtain ⟨b', o', rfl, q1, q2, q3, q4, q5, q6⟩ := hf
      have C1 := Lib.hid (names1_any (flAt l j) nr B wr (by have := HB.out.size; omega) ((HB.out.cell (p := ⟨B, 0, none⟩) hB).trans CB.out))
      have FJ := Lib.hid (rfl : flAt l j = flAt l j)
      generalize hf : flAt l j = f at *
      have HF := Lib.hid hf
      clear hf FJ q1 q6
      go_wp2_with fail
      refine C1.out.mono ?_
      rintro e w2 ⟨rfl, b2⟩
      have HB2 := Lib.hid (HB.out.trans (b2.mono HB.out.size))
      by_cases hx : f.file = nr
      · have d0 : decide (f.file = nr) = true := by simpa using hx
        have E := Lib.hid (namesIt_yes (l := l) (nr := nr) (i := j) (by rw [HL.out]; exact hlt) (by rw [HF.out]; exact hx))
        rw [d0]
        clear C1 b2 hx d0 q2 q3 q4 q5
        go_wp2
        go_ret
        exact ⟨(j : Int), rfl, by omega, by omega, by rw [E.out]; simp, HB2.out⟩
      · have d0 : decide (f.file = nr) = false := by simpa using hx
        have HX := Lib.hid hx
        rw [d0]
        clear C1 b2 hx d0 q2 q3 q4 q5
        go_wp2
        go_roundw
        case rel => exact ⟨j + 1, by omega, by go_num, fun i hi => (Nat.lt_or_ge i j).elim (fun e => NO.out i e) (fun e => by obtain rfl : i = j := Nat.le_antisymm (by omega) e; rw [HF.out]; exact HX.out), HB2.out⟩
        case measure => simp [intOf]; omega
    · obtain rfl : j = n := by omega
      have i1 : decide ((j : Int) < (j : Int)) = false := by simp
      have E := Lib.hid (namesIt_no (l := l) (nr := nr) (fun i hi => NO.out i (by rw [HL.out] at hi; exact hi)))
      go_wp2
      go_ret
      exact ⟨-1, rfl, by omega, by omega, by rw [E.out]; rfl, HB.out⟩
theorem contf_any (l : List Fl) (nr : Int) (B N : Nat) (A : Option Addr) (n c : Nat) (w : World) (hB : B < w.heap.size) (cb : w.cell? ⟨B, 0, none⟩ = some (.int .i64 nr)) (hl : l.length = n) (hn : n ≤ 1000) (hr : FlR w N A l) (hN : N ≤ w.heap.size) :
    Calls Try.prog 55 #[.slice A n c, .func (.func 56) #[] #[.pointer (some ⟨B, 0, none⟩)]] w fun e w' => e = .returned (.bool (namesIt l nr)) ∧ Below w.heap.size w w' := by
  have IX := Lib.hid (idxf_any l nr B N A n c w hB cb hl hn hr hN)
  clear cb hl hr
  go_enter Try.func55, Try.ntmps55
  go_wp2_with fail
  refine IX.out.mono ?_
  rintro e w2 ⟨i, rfl, i0, i1, hd, b2⟩
  have HB := Lib.hid b2; have HD := Lib.hid hd
  clear IX b2 hd
  obtain ⟨q, hq⟩ : ∃ q, decide (0 ≤ i) = q := ⟨_, rfl⟩
  have E : Hid (namesIt l nr = q) := Lib.hid (by rw [← HD.out, hq])
  have d1 : decide (i ≥ 0) = q := hq
  clear HD
  go_wp2
  go_ret
  exact ⟨by rw [E.out]; rfl, HB.out⟩
theorem names_any (F b s) (nr : Int) (w : World) (h : StAt w F b s) (hn : s.cat.files.length ≤ 1000) :
    Calls Try.prog 42 #[.pointer (some ⟨b, 0, none⟩), .int .i64 nr] w fun e w' => e = .returned (.bool (namesIt s.cat.files nr)) ∧ Below w.heap.size w w' := by
  obtain ⟨Fd, d, A, n, c, G, k, hl⟩ := h
  have hmf := mk_func
  have B1 := Lib.hid ((Below.refl _ w).alloc (Nat.le_refl _) (.cells #[.int .i64 nr] 3))
  have HL := Lib.hid hl
  have c9 : (w.alloc (.cells #[.int .i64 nr] 3)).cell? ⟨b, 9, none⟩ = some (.slice A n c) := (B1.out.cell (p := ⟨b, 9, none⟩) hl.blt).trans hl.cells.2.2.1
  have CF := Lib.hid (contf_any s.cat.files nr w.heap.size w.heap.size A n c (w.alloc (.cells #[.int .i64 nr] 3)) (by simp) (Arr.cell (Arr.new w 3 [.int .i64 nr]) 0) hl.fl.2.1 (by rw [← hl.fl.2.1]; exact hn) (hl.fl.reads.below B1.out) B1.out.size)
  clear hl
  go_enter Try.func42, Try.ntmps42
  go_wp2_with fail
  refine CF.out.mono ?_
  rintro e w2 ⟨rfl, b2⟩
  have HB := Lib.hid (bstep B1.out b2)
  clear CF b2 c9
  go_wp2
  go_ret
  exact ⟨rfl, HB.out⟩
end Go.Proofs.Ytilmicekpclmbaa
