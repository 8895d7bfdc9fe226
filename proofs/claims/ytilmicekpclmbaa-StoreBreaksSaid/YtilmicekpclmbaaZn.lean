/-
  Whole catalogs in a walk: read, a leaf of two numbers built, a leaf returned alone.
  Rows of files of the call's own: read as a list, one file more.
  Whole catalogs in a walk: made, laid into variables, returned.
  A store in memory: a struct with a catalog inside, the disk, the row of files, the row of free blocks.
-/
import Derived.Test.YtilmicekpclmbaaZl
import Derived.Test.YtilmicekpclmbaaZm
import Derived.Test.YtilmicekpclmbaaZd
import Derived.Deep.AppendLies
import Derived.Test.YtilmicekpclmbaaZc
import Derived.Test.YtilmicekpclmbaaZk
import Derived.Laws.CopyOwn
import Derived.Lib.Hide
namespace Go.Proofs.Ytilmicekpclmbaa
set_option linter.unusedVariables false
set_option linter.unusedSimpArgs false
set_option maxRecDepth 100000
open Go.RowKit

theorem Try.size_ct : (Try.prog.info? 37).map (·.size) = some 9 := by kernel_rfl
theorem CtAt.range {w : World} {b : Nat} {c : Ct} {A : Option Addr} {n cap : Nat} (h : CtAt w b c A n cap) : w.rangeAt b 0 (ctv c A n cap) := fun j v hv => by rw [Arr.cell h, Nat.zero_add]; exact hv
section
variable {ops : Array Oper} {rs : List Oper} {o : Oper} {a : Act} {w : World} {Q : Exit → Act → World → Prop}
theorem load_ct (hgd : o.guard = none) (x : Operand) (ho : o.op = .load 37 x) (b : Nat) (c : Ct) (A : Option Addr) (n cap : Nat) (hL : CtAt w b c A n cap) (hx : a.eval x = .pointer (some ⟨b, 0, none⟩))
    (h : wpList Try.prog ops Q rs (a.put o.dst (.agg (ctv c A n cap).toArray)) w) : wpList Try.prog ops Q (o :: rs) a w :=
  wpList_load_mid hgd _ x ho b 0 hx (ctv c A n cap) _ hL.range Try.underlying37 rfl Try.size_ct h
theorem built_two (k s : Int) : Try.prog.built 91 [(0, .int .i64 k), (4, .int .i64 s)] = some (lv ⟨k, 0, 0, 0, s, zeros 116⟩).toArray := by
  have h1 := Try.zero_leaf
  have h2 := Try.places_leaf
  unfold Program.built
  cases hi : Try.prog.info? 91 with
  | none => rw [hi] at h1; cases h1
  | some it =>
    rw [hi] at h1
    simp at h1
    cases hu : Try.prog.underlying 91 with
    | none => rw [hu] at h2; cases h2
    | some d =>
      rw [hu] at h2
      cases d <;> try (simp at h2; done)
      rename_i fs
      simp only at h2
      simp only [h1.1, h2]
      simp [Instr.fill, Value.cells, lv, Lf.zero, zeros]
theorem build_two (hgd : o.guard = none) (x0 x4 : Operand) (ho : o.op = .build 91 #[(0, x0), (4, x4)]) (k s : Int) (h0 : a.eval x0 = .int .i64 k) (h4 : a.eval x4 = .int .i64 s)
    (h : wpList Try.prog ops Q rs (a.put o.dst (.agg (lv ⟨k, 0, 0, 0, s, zeros 116⟩).toArray)) w) : wpList Try.prog ops Q (o :: rs) a w :=
  wpList_plain hgd fun K hK => by
    unfold Oper.wp execOp
    have e : (#[(0, x0), (4, x4)] : Array (Nat × Operand)).map (fun x => (x.1, a.eval x.2)) = #[(0, .int .i64 k), (4, .int .i64 s)] := by simp [h0, h4]
    simp only [ho, e, run_build w 91 #[(0, .int .i64 k), (4, .int .i64 s)] _ (built_two k s), Sem.run_bind, Sem.run_pure, Result.andThen_ok]
    exact hK _ _ h
end
/-- A leaf alone is returned. -/
theorem ret_one {fn : Func} {R : Ending → World → Prop} {a : Act} {w : World} {b : Nat} {L : Lf} (i : Nat) (hf : fn.results = #[.cell i 91]) (hi : a.tmps.getD i undef = .pointer (some ⟨b, 0, none⟩)) (h : LfAt w b L) (hd : a.defers = [])
    (hR : R (.returned (.agg (lv L).toArray)) w) : bodyPost Try.prog fn R .ret a w := by
  refine bodyPost_ret (v := .agg (lv L).toArray) ?_ hd hR
  unfold results
  rw [hf]
  rw [Array.getD_eq_getD_getElem?] at hi
  simp [hi, asAddr, load_run h]
/-- What Put answers. -/
noncomputable def Ct.putL (c : Ct) : Lf := open Classical in if c.Right then c.leaf else Lf.zero
theorem Ct.putL_yes {c : Ct} (h : c.Right) : c.putL = c.leaf := by unfold Ct.putL; rw [if_pos h]
theorem Ct.putL_no {c : Ct} (h : ¬ c.Right) : c.putL = Lf.zero := by unfold Ct.putL; rw [if_neg h]
theorem Ct.putL_ok (c : Ct) : c.putL.Ok := by
  by_cases h : c.Right
  · rw [Ct.putL_yes h]; exact Ct.leaf_ok h
  · rw [Ct.putL_no h]; exact Lf.zero_ok
theorem flBytes_snoc (l : List Fl) (i : Nat) (hi : i < l.length) : flBytes (l.take (i + 1)) = flBytes (l.take i) ++ (flAt l i).bytes := by
  rw [List.take_succ_eq_append_getElem hi]
  unfold flBytes
  rw [List.flatMap_append]
  congr 1
  unfold flAt
  rw [List.getD_eq_getElem?_getD, List.getElem?_eq_getElem hi]
  simp
end Go.Proofs.Ytilmicekpclmbaa
namespace Go.Proofs.Ytilmicekpclmbaa
set_option linter.unusedVariables false
set_option linter.unusedSimpArgs false
set_option maxRecDepth 100000
open Go.RowKit

def flvs (l : List Fl) : List Value := l.flatMap flv
theorem flvs_len : ∀ (l : List Fl), (flvs l).length = l.length * 4
  | [] => rfl
  | f :: r => by
    show (flv f ++ flvs r).length = _
    rw [List.length_append, flvs_len r, List.length_cons]
    show 4 + _ = _
    omega
theorem flvs_at : ∀ (l : List Fl) (i j : Nat), i < l.length → j < 4 → (flvs l)[i * 4 + j]? = (flv (flAt l i))[j]?
  | [], i, j, hi, _ => absurd hi (by simp)
  | f :: r, 0, j, _, hj => by
    show (flv f ++ flvs r)[0 * 4 + j]? = _
    rw [List.getElem?_append_left (by show 0 * 4 + j < 4; omega), Nat.zero_mul, Nat.zero_add]
    rfl
  | f :: r, i + 1, j, hi, hj => by
    show (flv f ++ flvs r)[(i + 1) * 4 + j]? = _
    rw [List.getElem?_append_right (by show 4 ≤ (i + 1) * 4 + j; omega)]
    have e : (i + 1) * 4 + j - (flv f).length = i * 4 + j := by show (i + 1) * 4 + j - 4 = _; omega
    rw [e, flvs_at r i j (by simpa using hi) hj]
    rfl
theorem flvs_snoc (l : List Fl) (f : Fl) : flvs (l ++ [f]) = flvs l ++ flv f := by
  unfold flvs
  rw [List.flatMap_append]
  simp
theorem flAt_snoc (l : List Fl) (f : Fl) (i : Nat) : flAt (l ++ [f]) i = if i < l.length then flAt l i else if i = l.length then f else Fl.zero := by
  unfold flAt
  rw [List.getD_eq_getElem?_getD, List.getElem?_append]
  split
  · rw [List.getD_eq_getElem?_getD]
  · rename_i h
    split
    · rename_i h2; rw [h2, Nat.sub_self]; rfl
    · rw [List.getElem?_eq_none (by show 1 ≤ _; omega)]; rfl
theorem flv_one (f : Fl) (u : Value) (h : u ∈ flv f) : u.oneCell' = true := by
  unfold flv at h
  simp at h
  rcases h with rfl | rfl | rfl | rfl <;> rfl
/-- A slice of files in a block of the call's own, from its head on (or nil). -/
def OwnF (w : World) (base : Nat) (A : Option Addr) (n cap : Nat) (l : List Fl) : Prop :=
  RowN w base 40 4 A n cap (flvs l) ∧ l.length = n ∧ ∀ i, i < l.length → (flAt l i).Ok
theorem OwnF.nil (w : World) (base : Nat) : OwnF w base none 0 0 [] := ⟨RowN.nil _ _ _ _, rfl, fun i hi => absurd hi (by simp)⟩
theorem OwnF.same {w w' : World} {base : Nat} {A : Option Addr} {n cap : Nat} {l : List Fl} (h : OwnF w base A n cap l) (k : ∀ a, A = some a → w'.heap[a.block]? = w.heap[a.block]?) : OwnF w' base A n cap l := ⟨h.1.same k, h.2⟩
theorem OwnF.below {w w' : World} {base : Nat} {A : Option Addr} {n cap : Nat} {l : List Fl} (h : OwnF w base A n cap l) (b : Below w.heap.size w w') : OwnF w' base A n cap l := ⟨h.1.below b, h.2⟩
theorem OwnF.drew {w : World} {base : Nat} {A : Option Addr} {n cap : Nat} {l : List Fl} (h : OwnF w base A n cap l) : OwnF w.drew base A n cap l := h.below (Below.refl _ _).drew
theorem OwnF.alloc {w : World} {base : Nat} {A : Option Addr} {n cap : Nat} {l : List Fl} (h : OwnF w base A n cap l) (o : Obj) : OwnF (w.alloc o) base A n cap l := h.below ((Below.refl _ _).alloc (Nat.le_refl _) o)
theorem OwnF.lt {w : World} {base : Nat} {A : Option Addr} {n cap : Nat} {l : List Fl} (h : OwnF w base A n cap l) (a : Addr) (ha : A = some a) : base ≤ a.block ∧ a.block < w.heap.size := h.1.lt a ha
theorem OwnF.weak {w : World} {base base' : Nat} {A : Option Addr} {n cap : Nat} {l : List Fl} (h : OwnF w base A n cap l) (k : ∀ a, A = some a → base' ≤ a.block) : OwnF w base' A n cap l := ⟨h.1.weak k, h.2⟩
theorem OwnF.other {w : World} {base : Nat} {A : Option Addr} {n cap r k : Nat} {l : List Fl} (h : OwnF w base A n cap l) (hne : ∀ a, A = some a → a.block ≠ r) (v : Value) : OwnF (w.setCell ⟨r, k, none⟩ v) base A n cap l := ⟨h.1.other hne v, h.2⟩
theorem OwnF.reads {w : World} {base : Nat} {A : Option Addr} {n cap : Nat} {l : List Fl} (h : OwnF w base A n cap l) : FlR w w.heap.size A l := fun i hi => by
  have hn := h.2.1
  obtain ⟨g, rfl, hc⟩ := h.1.at (by omega)
  have c := fun j (hj : j < 4) => ((hc (i * 4 + j)).2 (by omega)).trans (flvs_at l i j hi hj)
  refine ⟨g, 0, rfl, (h.lt _ rfl).2, ?_, ?_, ?_, ?_, h.2.2 i hi⟩
  · rw [Nat.zero_add]; exact c 0 (by decide)
  · rw [Nat.zero_add]; exact c 1 (by decide)
  · rw [Nat.zero_add]; exact c 2 (by decide)
  · rw [Nat.zero_add]; exact c 3 (by decide)
theorem Try.info_file : (Try.prog.info? 40).map (fun i => (i.zero, i.size, i.bytes)) = some (some (.agg #[.int .i64 0, .int .i64 0, .int .i64 0, .int .i64 0]), 4, 32) := by kernel_rfl
/-- A file that lies somewhere. -/
def FlAt4 (w : World) (b o : Nat) (f : Fl) : Prop := ∀ (j : Nat) (u : Value), (flv f)[j]? = some u → w.cell? ((⟨b, o, none⟩ : Addr).add j) = some u
theorem FlAt4.new (w : World) (f : Fl) (t : TypeId) (m : Nat × Nat) : FlAt4 (w.alloc (.cells #[.int .i64 f.name, .int .i64 f.file, .int .i64 f.first, .int .i64 f.blocks] t m)) w.heap.size 0 f := fun j u hu => by
  rw [Addr.add_mid, Nat.zero_add]
  rw [cell_of_row _ _ _ _ _ _ (heap_alloc_new w _), ← hu]
  rw [← Array.getElem?_toList]
  rfl
theorem FlAt4.below {w w' : World} {b o : Nat} {f : Fl} (h : FlAt4 w b o f) (hb : Below w.heap.size w w') (hl : b < w.heap.size) : FlAt4 w' b o f := fun j u hu => by
  rw [hb.cell (p := (⟨b, o, none⟩ : Addr).add j) (by rw [Addr.add_mid]; exact hl)]
  exact h j u hu
theorem OwnF.grow {w' : World} {base g cap n : Nat} {l : List Fl} {f : Fl} (hf : f.Ok) (hl : l.length = n) (ho : ∀ i, i < l.length → (flAt l i).Ok) (h : RowN w' base 40 4 (some ⟨g, 0, none⟩) (n + 1) cap (flvs l ++ flv f)) : OwnF w' base (some ⟨g, 0, none⟩) (n + 1) cap (l ++ [f]) := by
  refine ⟨by rw [flvs_snoc]; exact h, by rw [List.length_append, hl]; rfl, fun i hi => ?_⟩
  rw [flAt_snoc]
  split
  · exact ho i (by assumption)
  · split
    · exact hf
    · exact Fl.zero_ok
/-- What an append leaves alone, and where the row lies behind it. -/
def FlKeep (A : Option Addr) (g : Nat) (w w' : World) : Prop := Keep (fun k => ∃ a, A = some a ∧ k = a.block) w w' ∧ ((∃ a, A = some a ∧ g = a.block) ∨ w.heap.size ≤ g)
theorem flKeep_of {A : Option Addr} {n cap g : Nat} {w w' : World} (h2 : w.grownBy w' (Value.slice A n cap).ownBlock) (h3 : (Value.slice A n cap).ownBlock = some g ∨ w.heap.size ≤ g) : FlKeep A g w w' := by
  cases A with
  | none =>
    refine ⟨⟨h2.os, h2.tape, h2.output, h2.size, fun q hq hn => h2.block q hq (fun e => by cases e)⟩, Or.inr ?_⟩
    rcases h3 with e | e
    · cases e
    · exact e
  | some a =>
    refine ⟨⟨h2.os, h2.tape, h2.output, h2.size, fun q hq hn => h2.block q hq (fun e => hn ⟨a, rfl, ?_⟩)⟩, ?_⟩
    · have e : some q = some a.block := e
      injection e with e
    · rcases h3 with e | e
      · have e : some a.block = some g := e
        injection e with e
        exact Or.inl ⟨a, rfl, e.symm⟩
      · exact Or.inr e
theorem app_fl (w : World) {ops : Array Oper} {rs : List Oper} {o : Oper} {a : Act} {Q : Exit → Act → World → Prop} (hgd : o.guard = none)
    (s x : Operand) (ho : o.op = .call { callee := .builtin .append, args := #[s, x], argTypes := #[35, 35] })
    (base n cap : Nat) (A : Option Addr) (l : List Fl) (hs : a.eval s = .slice A n cap) (hown : OwnF w base A n cap l)
    (b' o' c : Nat) (f : Fl) (hx : a.eval x = .slice (some ⟨b', o', none⟩) 1 c) (hr : FlAt4 w b' o' f) (hf : f.Ok)
    (hl : n ≤ 1000000) (hbase : base ≤ w.heap.size)
    (h : ∀ g' cap' w', OwnF w' base (some ⟨g', 0, none⟩) (n + 1) cap' (l ++ [f]) → FlKeep A g' w w' → wpList Try.prog ops Q rs (a.put o.dst (.slice (some ⟨g', 0, none⟩) (n + 1) cap')) w') :
    wpList Try.prog ops Q (o :: rs) a w := by
  obtain ⟨i0, hi, hz0, hz1, hz2⟩ := info_parts Try.info_file
  refine wpList_append_lies w hgd s x 35 ho base 40 i0 _ 4 32 Try.underlying35 hi hz0 hz1 hz2 rfl (by decide) _ n (flvs l) hs hown.1 ⟨b', o', none⟩ 1 c (flv f) hx rfl hr (flv_one f) (by decide) (by unfold maxLen; omega) (by omega) hbase w.heap.size rfl ?_
  intro g' cap' w' h1 h2 h3 _
  exact h g' cap' w' (OwnF.grow hf hown.2.1 hown.2.2 h1) (flKeep_of h2 (by rcases h3 with e | e; exact Or.inl e; exact Or.inr (by omega)))
theorem step_fl {w : World} {ops : Array Oper} {o : Oper} {a : Act} {K : Act → World → Prop} {Q : Exit → Act → World → Prop} {E : Prop} (hgd : o.guard = none) (s x : Operand)
    (ho : o.op = .call { callee := .builtin .append, args := #[s, x], argTypes := #[35, 35] })
    (base n cap : Nat) (A : Option Addr) (l : List Fl) (hs : a.eval s = .slice A n cap) (hown : OwnF w base A n cap l)
    (b' o' c : Nat) (f : Fl) (hx : a.eval x = .slice (some ⟨b', o', none⟩) 1 c) (hr : FlAt4 w b' o' f) (hf : f.Ok)
    (hl : n ≤ 1000000) (hbase : base ≤ w.heap.size)
    (h : ∀ g' cap' w', OwnF w' base (some ⟨g', 0, none⟩) (n + 1) cap' (l ++ [f]) → FlKeep A g' w w' → K (a.put o.dst (.slice (some ⟨g', 0, none⟩) (n + 1) cap')) w') :
    if Region.wanted o (yielded ops a.tmps) = true then Oper.wp Try.prog o a w K Q else E := by
  obtain ⟨i0, hi, hz0, hz1, hz2⟩ := info_parts Try.info_file
  refine step_append_lies w hgd s x 35 ho base 40 i0 _ 4 32 Try.underlying35 hi hz0 hz1 hz2 rfl (by decide) _ n (flvs l) hs hown.1 ⟨b', o', none⟩ 1 c (flv f) hx rfl hr (flv_one f) (by decide) (by unfold maxLen; omega) (by omega) hbase w.heap.size rfl ?_
  intro g' cap' w' h1 h2 h3 _
  exact h g' cap' w' (OwnF.grow hf hown.2.1 hown.2.2 h1) (flKeep_of h2 (by rcases h3 with e | e; exact Or.inl e; exact Or.inr (by omega)))
end Go.Proofs.Ytilmicekpclmbaa
namespace Go.Proofs.Ytilmicekpclmbaa
set_option linter.unusedVariables false
set_option linter.unusedSimpArgs false
set_option maxRecDepth 100000
open Go.RowKit

theorem Try.zero_ct : (Try.prog.info? 37).map (fun i => (i.zero, i.size)) = some (some (.agg (ctv Ct.zero none 0 0).toArray), 9) := by kernel_rfl
theorem ctv_one (c : Ct) (A : Option Addr) (n cap : Nat) : ∀ u, u ∈ ctv c A n cap → u.oneCell' = true := fun u h => by
  unfold ctv at h
  simp at h
  rcases h with rfl | rfl | rfl | rfl | rfl | rfl | rfl | rfl | rfl <;> rfl
section
variable {ops : Array Oper} {rs : List Oper} {o : Oper} {a : Act} {w : World} {Q : Exit → Act → World → Prop}
theorem zero_ct_run (w : World) : (zeroValue 37).run Try.prog w = .ok (.agg (ctv Ct.zero none 0 0).toArray) w := (zero_of_info Try.zero_ct).1 w
theorem alloc_ct (hgd : o.guard = none) (ho : o.op = .alloc 37)
    (h : ∀ w1, CtAt w1 w.heap.size Ct.zero none 0 0 → Below w.heap.size w w1 → w1.heap.size = w.heap.size + 1 → wpList Try.prog ops Q rs (a.put o.dst (.pointer (some ⟨w.heap.size, 0, none⟩))) w1) : wpList Try.prog ops Q (o :: rs) a w :=
  wpList_plain hgd fun K hK => by
    unfold Oper.wp execOp
    simp only [ho, Instr.alloc, newVar, newRow, newObj, Value.cells, Sem.run_bind, Sem.run_pure, Result.andThen_ok, zero_ct_run]
    exact hK _ _ (h _ (Arr.new w _ _) ((Below.refl _ _).alloc (Nat.le_refl _) _) (by simp))
theorem store_ct_run {b : Nat} {c0 c : Ct} {A0 A : Option Addr} {n0 n k0 k : Nat} (h0 : CtAt w b c0 A0 n0 k0) : (storeVar 37 ⟨b, 0, none⟩ (.agg (ctv c A n k).toArray)).run Try.prog w = .ok () (w.setRow b (ctv c A n k).toArray) :=
  run_storeVar_row w b _ _ _ _ h0 (by rw [List.size_toArray]; exact Try.size_ct) (by rw [List.size_toArray, List.size_toArray]; rfl) (all_oneCell_toArray (ctv_one c A n k))
/-- A catalog's variable takes another one. -/
theorem store_ct (hgd : o.guard = none) (x y : Operand) (ho : o.op = .store 37 x y) (b : Nat) (c0 c : Ct) (A0 A : Option Addr) (n0 n k0 k : Nat) (h0 : CtAt w b c0 A0 n0 k0) (hx : a.eval x = .pointer (some ⟨b, 0, none⟩)) (hy : a.eval y = .agg (ctv c A n k).toArray)
    (h : ∀ w1, CtAt w1 b c A n k → Keep (· = b) w w1 → w1.heap.size = w.heap.size → wpList Try.prog ops Q rs (a.put o.dst undef) w1) : wpList Try.prog ops Q (o :: rs) a w :=
  wpList_plain hgd fun K hK => by
    unfold Oper.wp execOp
    simp only [ho, hx, hy, Instr.storeAt, Instr.sureAddr, Sem.run_bind, Sem.run_pure, Result.andThen_ok, store_ct_run h0]
    exact hK _ _ (h _ (setRow_heap w b _ _ _ _ h0) (keep_setRow w b _) (by simp [World.setRow]))
theorem built_ct0 : Try.prog.built 37 [] = some (ctv Ct.zero none 0 0).toArray := by
  have h1 := Try.zero_ct
  unfold Program.built
  cases hi : Try.prog.info? 37 with
  | none => rw [hi] at h1; cases h1
  | some it =>
    rw [hi] at h1
    simp at h1
    rw [Try.underlying37]
    simp only [h1.1]
    rfl
theorem build_ct0 (hgd : o.guard = none) (ho : o.op = .build 37 #[])
    (h : wpList Try.prog ops Q rs (a.put o.dst (.agg (ctv Ct.zero none 0 0).toArray)) w) : wpList Try.prog ops Q (o :: rs) a w :=
  wpList_plain hgd fun K hK => by
    unfold Oper.wp execOp
    simp only [ho, Array.map_empty, run_build w 37 #[] _ built_ct0, Sem.run_bind, Sem.run_pure, Result.andThen_ok]
    exact hK _ _ h
end
theorem load_ct_run {w : World} {b : Nat} {c : Ct} {A : Option Addr} {n k : Nat} (h : CtAt w b c A n k) : (loadVar 37 ⟨b, 0, none⟩).run Try.prog w = .ok (.agg (ctv c A n k).toArray) w :=
  run_loadVar_mid w b 0 _ (ctv c A n k) _ h.range Try.underlying37 rfl Try.size_ct
/-- A catalog and a bool are returned. -/
theorem ret_ct {fn : Func} {R : Ending → World → Prop} {a : Act} {w : World} {b : Nat} {c : Ct} {A : Option Addr} {n k : Nat} {q : Bool} (i j : Nat) (hf : fn.results = #[.cell i 37, .tmp j]) (hi : a.tmps.getD i undef = .pointer (some ⟨b, 0, none⟩)) (hj : a.tmps.getD j undef = .bool q) (h : CtAt w b c A n k) (hd : a.defers = [])
    (hR : R (.returned (.tuple #[.agg (ctv c A n k).toArray, .bool q])) w) : bodyPost Try.prog fn R .ret a w := by
  refine bodyPost_ret (v := .tuple #[.agg (ctv c A n k).toArray, .bool q]) ?_ hd hR
  unfold results
  rw [hf]
  rw [Array.getD_eq_getD_getElem?] at hi hj
  simp [hi, hj, asAddr, load_ct_run h]
/-- A catalog alone is returned. -/
theorem ret_ct1 {fn : Func} {R : Ending → World → Prop} {a : Act} {w : World} {b : Nat} {c : Ct} {A : Option Addr} {n k : Nat} (i : Nat) (hf : fn.results = #[.cell i 37]) (hi : a.tmps.getD i undef = .pointer (some ⟨b, 0, none⟩)) (h : CtAt w b c A n k) (hd : a.defers = [])
    (hR : R (.returned (.agg (ctv c A n k).toArray)) w) : bodyPost Try.prog fn R .ret a w := by
  refine bodyPost_ret (v := .agg (ctv c A n k).toArray) ?_ hd hR
  unfold results
  rw [hf]
  rw [Array.getD_eq_getD_getElem?] at hi
  simp [hi, asAddr, load_ct_run h]
/-- The row of files takes another place. -/
theorem CtAt.files {w : World} {b : Nat} {c : Ct} {A A' : Option Addr} {n k n' k' : Nat} (h : CtAt w b c A n k) : CtAt (w.setCell ⟨b, 8, none⟩ (.slice A' n' k')) b c A' n' k' := Arr.set h 8 _
end Go.Proofs.Ytilmicekpclmbaa
namespace Go.Proofs.Ytilmicekpclmbaa
set_option linter.unusedVariables false
set_option linter.unusedSimpArgs false
set_option maxRecDepth 100000
open Go.RowKit

/-- Some cells of a block take others. -/
theorem Arr.setCells {b : Nat} {T : TypeId} : ∀ (cs : List Value) (o : Nat) (vs : List Value) (w : World), Arr w b T vs → Arr (w.setCells b o cs) b T ((List.range cs.length).foldl (fun l i => l.set (o + i) (cs.getD i undef)) vs) ∧ Keep (· = b) w (w.setCells b o cs) ∧ (w.setCells b o cs).heap.size = w.heap.size
  | [], o, vs, w, h => ⟨h, Keep.refl _ _, rfl⟩
  | c :: cs, o, vs, w, h => by
    obtain ⟨h1, h2, h3⟩ := Arr.setCells cs (o + 1) (vs.set o c) (w.setCell ⟨b, o, none⟩ c) (h.set o c)
    have e : w.setCells b o (c :: cs) = (w.setCell ⟨b, o, none⟩ c).setCells b (o + 1) cs := rfl
    rw [e]
    refine ⟨?_, ((Keep.refl (· = b) w).setCell rfl c).trans (Sub.refl _ _) h2, h3.trans (setCell_size _ _ _)⟩
    rw [List.length_cons, List.range_succ_eq_map, List.foldl_cons, List.foldl_map]
    have : ∀ i, o + 1 + i = o + (i + 1) := fun i => by omega
    simp only [this] at h1
    exact h1
def stv (d : Nat) (s : St) (A : Option Addr) (n c : Nat) (G : Option Addr) (k : Nat) : List Value :=
  [.pointer (some ⟨d, 0, none⟩), .int .i64 s.cat.gen, .int .i64 s.cat.step, .int .i64 s.cat.status, .bool s.cat.ended, .int .i64 s.cat.card.frm, .int .i64 s.cat.card.to_, .int .i64 s.cat.card.budget, .int .i64 s.cat.card.fan, .slice A n c, .int .i64 s.slot, .int .i64 s.begun, .slice G s.free.length k]
structure StLay (w : World) (F : Nat → Prop) (b : Nat) (s : St) (Fd : Nat → Prop) (d : Nat) (A : Option Addr) (n c : Nat) (G : Option Addr) (k : Nat) : Prop where
  st : Arr w b 75 (stv d s A n c G k)
  dk : DiskAt w Fd d s.dk
  fl : OwnF w 0 A n c s.cat.files
  fr : RowN w 0 4 1 G s.free.length k (bvals s.free)
  ok : s.cat.Ok
  slot : 0 ≤ s.slot ∧ s.slot ≤ 1
  begun : 0 ≤ s.begun ∧ s.begun ≤ 1000000000
  fb : F b
  fA : InF F A
  fG : InF F G
  fd : ∀ q, Fd q → F q
  nb : ¬ Fd b
  nA : ∀ a, A = some a → ¬ Fd a.block
  nG : ∀ a, G = some a → ¬ Fd a.block
  lt : ∀ q, F q → q < w.heap.size
  lc : s.loc = d
def StAt (w : World) (F : Nat → Prop) (b : Nat) (s : St) : Prop := ∃ Fd d A n c G k, StLay w F b s Fd d A n c G k
def StStep (F : Nat → Prop) (b : Nat) (s' : St) (w w' : World) : Prop := ∃ F', StAt w' F' b s' ∧ Keep F w w' ∧ Sub F' F w
section
variable {w w' : World} {F : Nat → Prop} {b : Nat} {s : St} {Fd : Nat → Prop} {d : Nat} {A : Option Addr} {n c : Nat} {G : Option Addr} {k : Nat}
theorem StLay.cells (h : StLay w F b s Fd d A n c G k) : w.cell? ⟨b, 0, none⟩ = some (.pointer (some ⟨d, 0, none⟩)) ∧ w.cell? ⟨b, 1, none⟩ = some (.int .i64 s.cat.gen) ∧ w.cell? ⟨b, 9, none⟩ = some (.slice A n c) ∧ w.cell? ⟨b, 10, none⟩ = some (.int .i64 s.slot) ∧ w.cell? ⟨b, 11, none⟩ = some (.int .i64 s.begun) ∧ w.cell? ⟨b, 12, none⟩ = some (.slice G s.free.length k) :=
  ⟨h.st.cell 0, h.st.cell 1, h.st.cell 9, h.st.cell 10, h.st.cell 11, h.st.cell 12⟩
theorem StLay.frozen (h : StLay w F b s Fd d A n c G k) (j : Nat) : w.frozen? ⟨b, j, none⟩ = false := Arr.frozen h.st j
theorem StLay.blt (h : StLay w F b s Fd d A n c G k) : b < w.heap.size := h.lt b h.fb
theorem StLay.stay (h : StLay w F b s Fd d A n c G k) (hs : w.heap.size ≤ w'.heap.size) (e : ∀ q, F q → w'.heap[q]? = w.heap[q]?) : StLay w' F b s Fd d A n c G k where
  st := h.st.same (e b h.fb)
  dk := h.dk.stay (fun q hq => e q (h.fd q hq))
  fl := h.fl.same (fun a ha => e _ (h.fA a ha))
  fr := h.fr.same (fun a ha => e _ (h.fG a ha))
  ok := h.ok
  slot := h.slot
  begun := h.begun
  fb := h.fb
  fA := h.fA
  fG := h.fG
  fd := h.fd
  nb := h.nb
  nA := h.nA
  nG := h.nG
  lt := fun q hq => by have := h.lt q hq; omega
  lc := h.lc
theorem StLay.below (h : StLay w F b s Fd d A n c G k) (hb : Below w.heap.size w w') : StLay w' F b s Fd d A n c G k := h.stay hb.size (fun q hq => hb.block q (h.lt q hq))
/-- What the disk does is done to the store. -/
theorem StLay.disk {t : Dk} (h : StLay w F b s Fd d A n c G k) (st : Step Fd d t w w') : ∃ F' Fd', StLay w' F' b { s with dk := t } Fd' d A n c G k ∧ Keep F w w' ∧ Sub F' F w := by
  obtain ⟨Fd', hd, kp, sb⟩ := st
  have blk : ∀ q, q < w.heap.size → ¬ Fd q → w'.heap[q]? = w.heap[q]? := kp.block
  have nw : ∀ q, q < w.heap.size → ¬ Fd q → ¬ Fd' q := fun q h1 h2 h3 => by rcases sb q h3 with e | e; exact h2 e; omega
  refine ⟨fun q => F q ∨ Fd' q, Fd', ⟨h.st.same (blk b h.blt h.nb), hd, h.fl.same (fun a ha => blk _ (h.lt _ (h.fA a ha)) (h.nA a ha)), h.fr.same (fun a ha => blk _ (h.lt _ (h.fG a ha)) (h.nG a ha)), h.ok, h.slot, h.begun, Or.inl h.fb, fun a ha => Or.inl (h.fA a ha), fun a ha => Or.inl (h.fG a ha), fun q hq => Or.inr hq,
    nw b h.blt h.nb, fun a ha => nw _ (h.lt _ (h.fA a ha)) (h.nA a ha), fun a ha => nw _ (h.lt _ (h.fG a ha)) (h.nG a ha), fun q hq => ?_, h.lc⟩, ⟨kp.os, kp.tape, kp.output, kp.size, fun q h1 h2 => blk q h1 (fun e => h2 (h.fd q e))⟩, fun q hq => ?_⟩
  · rcases hq with hq | hq
    · have := h.lt q hq; have := kp.size; omega
    · exact hd.lt q hq
  · rcases hq with hq | hq
    · exact Or.inl hq
    · rcases sb q hq with e | e
      · exact Or.inl (h.fd q e)
      · exact Or.inr e
/-- A word of its own is written anew. -/
theorem StLay.word {s' : St} (h : StLay w F b s Fd d A n c G k) (j : Nat) (v : Value) (e1 : s'.dk = s.dk) (e2 : s'.cat = s.cat) (e3 : s'.free = s.free) (hs : 0 ≤ s'.slot ∧ s'.slot ≤ 1) (hb : 0 ≤ s'.begun ∧ s'.begun ≤ 1000000000) (hv : (stv d s A n c G k).set j v = stv d s' A n c G k) (e4 : s'.loc = s.loc := by rfl) : StLay (w.setCell ⟨b, j, none⟩ v) F b s' Fd d A n c G k where
  st := by have := h.st.set j v; rw [hv] at this; exact this
  dk := by rw [e1]; exact h.dk.stay (fun q hq => Below.heap_setCell _ _ _ _ (fun e => h.nb (by rw [← show q = b from e]; exact hq)))
  fl := by rw [e2]; exact h.fl.other (fun a ha => h.fl.1.ne (r := b) (T := 75) h.st (by decide) a ha) v
  fr := by rw [e3]; exact h.fr.other (fun a ha => h.fr.ne (r := b) (T := 75) h.st (by decide) a ha) v
  ok := by rw [e2]; exact h.ok
  slot := hs
  begun := hb
  fb := h.fb
  fA := h.fA
  fG := h.fG
  fd := h.fd
  nb := h.nb
  nA := h.nA
  nG := h.nG
  lt := fun q hq => by rw [setCell_size]; exact h.lt q hq
  lc := e4.trans h.lc
/-- A block becomes free, or isn't any more. -/
theorem StLay.mark {g i : Nat} (h : StLay w F b s Fd d A n c (some ⟨g, 0, none⟩) k) (x : Bool) : StLay (w.setCell ⟨g, i, none⟩ (.bool x)) F b { s with free := s.free.set i x } Fd d A n c (some ⟨g, 0, none⟩) k where
  st := by
    have e : stv d { s with free := s.free.set i x } A n c (some ⟨g, 0, none⟩) k = stv d s A n c (some ⟨g, 0, none⟩) k := by unfold stv; simp only [List.length_set]
    rw [e]
    exact h.st.far (fun e => h.fr.ne (r := b) (T := 75) h.st (by decide) _ rfl e.symm) _
  dk := h.dk.stay (fun q hq => Below.heap_setCell _ _ _ _ (fun e => h.nG _ rfl (by rw [← show q = g from e]; exact hq)))
  fl := h.fl.other (fun a ha => by
    obtain ⟨cur, hc⟩ := h.fr.kind _ rfl
    exact h.fl.1.ne hc (by decide) a ha) _
  fr := by
    have := h.fr.set i (.bool x)
    rw [bvals_set] at this
    show RowN _ 0 _ 1 _ (s.free.set i x).length k _
    rw [List.length_set]
    exact this
  ok := h.ok
  slot := h.slot
  begun := h.begun
  fb := h.fb
  fA := h.fA
  fG := h.fG
  fd := h.fd
  nb := h.nb
  nA := h.nA
  nG := h.nG
  lt := fun q hq => by rw [setCell_size]; exact h.lt q hq
  lc := h.lc
/-- Another row of free blocks: a new one. -/
theorem StLay.anew {f : List Bool} {G' : Option Addr} {k' : Nat} (h : StLay w F b s Fd d A n c G k) (hr : RowN w 0 4 1 G' f.length k' (bvals f)) (hG : ∀ a, G' = some a → ¬ F a.block) :
    StLay (w.setCell ⟨b, 12, none⟩ (.slice G' f.length k')) (fun q => F q ∨ ∃ a, G' = some a ∧ q = a.block) b { s with free := f } Fd d A n c G' k' where
  st := h.st.set 12 _
  dk := h.dk.stay (fun q hq => Below.heap_setCell _ _ _ _ (fun e => h.nb (by rw [← show q = b from e]; exact hq)))
  fl := h.fl.other (fun a ha => h.fl.1.ne (r := b) (T := 75) h.st (by decide) a ha) _
  fr := hr.other (fun a ha e => hG a ha (by rw [e]; exact h.fb)) _
  ok := h.ok
  slot := h.slot
  begun := h.begun
  fb := Or.inl h.fb
  fA := fun a ha => Or.inl (h.fA a ha)
  fG := fun a ha => Or.inr ⟨a, ha, rfl⟩
  fd := fun q hq => Or.inl (h.fd q hq)
  nb := h.nb
  nA := h.nA
  nG := fun a ha e => hG a ha (h.fd _ e)
  lt := fun q hq => by
    rw [setCell_size]
    rcases hq with hq | ⟨a, ha, rfl⟩
    · exact h.lt q hq
    · exact (hr.lt a ha).2
  lc := h.lc
theorem StAt.lt (h : StAt w F b s) : ∀ q, F q → q < w.heap.size := by obtain ⟨_, _, _, _, _, _, _, h⟩ := h; exact h.lt
theorem StAt.fb (h : StAt w F b s) : F b := by obtain ⟨_, _, _, _, _, _, _, h⟩ := h; exact h.fb
theorem StAt.ok (h : StAt w F b s) : s.cat.Ok := by obtain ⟨_, _, _, _, _, _, _, h⟩ := h; exact h.ok
theorem StAt.dok (h : StAt w F b s) : s.dk.Ok := by obtain ⟨_, _, _, _, _, _, _, h⟩ := h; exact h.dk.ok
theorem StAt.stay (h : StAt w F b s) (hs : w.heap.size ≤ w'.heap.size) (e : ∀ q, F q → w'.heap[q]? = w.heap[q]?) : StAt w' F b s := by obtain ⟨_, _, _, _, _, _, _, h⟩ := h; exact ⟨_, _, _, _, _, _, _, h.stay hs e⟩
theorem StAt.below (h : StAt w F b s) (hb : Below w.heap.size w w') : StAt w' F b s := h.stay hb.size (fun q hq => hb.block q (h.lt q hq))
theorem StStep.same (h : StAt w F b s) : StStep F b s w w := ⟨F, h, Keep.refl _ _, Sub.refl _ _⟩
theorem StStep.of_below (h : StAt w F b s) (hb : Below w.heap.size w w') : StStep F b s w w' := ⟨F, h.below hb, Keep.of_below hb, Sub.refl _ _⟩
theorem StStep.on {F1 : Nat → Prop} {w1 w2 : World} {s' : St} (k1 : Keep F w w1) (s1 : Sub F1 F w) (h : StStep F1 b s' w1 w2) : StStep F b s' w w2 := by
  obtain ⟨F2, h2, k2, s2⟩ := h
  exact ⟨F2, h2, k1.trans s1 k2, s1.trans s2 k1.size⟩
end
end Go.Proofs.Ytilmicekpclmbaa
