/-
  The document's own disk in memory.
  The document's own disk: Write.
-/
import Derived.Test.YtilmicekpclmbaaZd
import Derived.Test.YtilmicekpclmbaaDk
import Derived.OwnWalk
import Derived.Deep.DeepCutAuto
namespace Go.Proofs.Ytilmicekpclmbaa
set_option linter.unusedVariables false
set_option linter.unusedSimpArgs false
open Go.RowKit

/-- Where its parts lie. -/
structure RefP where
  AB : Option Addr
  cB : Nat
  AD : Option Addr
  cD : Nat
  AA : Option Addr
  cA : Nat
  AW : Option Addr
  cW : Nat
  bs : List Value
  ws : List Value
/-- Which blocks are its own, by its rows. -/
def InF (F : Nat → Prop) (A : Option Addr) : Prop := ∀ a, A = some a → F a.block
def refCells (t : Dk) (p : RefP) : List Value := [.slice p.AB t.blk.length p.cB, .slice p.AD t.blk.length p.cD, .slice p.AA t.wt.length p.cA, .slice p.AW t.wt.length p.cW, .int .i64 t.fuse, .bool t.off, .int .i64 (t.wrote : Int)]
theorem setCell_size (w : World) (a : Addr) (v : Value) : (w.setCell a v).heap.size = w.heap.size := by simp [World.setCell]
theorem bvals_len (ts : List Bool) : (bvals ts).length = ts.length := by unfold bvals; rw [List.length_map]
theorem ivals_len (ts : List Nat) : (ivals ts).length = ts.length := by unfold ivals; rw [List.length_map]
theorem Keep.setCell {F : Nat → Prop} {w w' : World} (h : Keep F w w') {a : Addr} (ha : F a.block) (v : Value) : Keep F w (w'.setCell a v) :=
  ⟨h.os, h.tape, h.output, by rw [setCell_size]; exact h.size, fun k hk hn => by rw [Below.heap_setCell _ _ _ _ (fun e => hn (by rw [e]; exact ha)), h.block k hk hn]⟩

/-- Behind the question whether it goes. -/
def Dk.asked (t : Dk) : Dk := if t.goes then t.burn else t.down
theorem Dk.asked_yes {t : Dk} (h : t.goes = true) : t.asked = t.burn := by unfold Dk.asked; rw [if_pos h]
theorem Dk.asked_no {t : Dk} (h : t.goes = false) : t.asked = t.down := by unfold Dk.asked; rw [if_neg (by rw [h]; decide)]
end Go.Proofs.Ytilmicekpclmbaa
namespace Go.Proofs.Ytilmicekpclmbaa
set_option linter.unusedVariables false
set_option linter.unusedSimpArgs false
open Go.RowKit

theorem RowA.ne_arr {w : World} {e T : TypeId} {A : Option Addr} {c r : Nat} {xs vs : List Value} (h : RowA w e A c xs) (hr : Arr w r T vs) (hne : T ≠ e) (a : Addr) (ha : A = some a) : a.block ≠ r := by
  intro e'
  rcases h.parts with ⟨rfl, rfl, rfl⟩ | ⟨g, cur, rfl, h1, h2, h3, h4, h5⟩
  · cases ha
  · injection ha with ha
    subst ha
    have e' : g = r := e'
    subst e'
    unfold Arr at hr
    rw [h1] at hr
    injection hr with hr
    injection hr with _ hr
    exact hne hr.symm
theorem BlkAt.keep {w w' : World} {F F' : Nat → Prop} {T : TypeId} {r : Nat} {vs : List Value} {v : Value} {xs : List Int} (h : BlkAt w F v xs) (hr : Arr w r T vs) (hne : T ≠ 5) (hk : Keep (· = r) w w') (hF : ∀ g, F g → F' g) : BlkAt w' F' v xs := by
  obtain ⟨g, c, h1, h2, h3, h4⟩ := h
  refine ⟨g, c, h1, hF g h2, hk.own h3 (fun e => ?_), h4⟩
  obtain ⟨c1, e1⟩ := h3.heap
  unfold Arr at hr
  rw [← e, e1] at hr
  injection hr with hr
  injection hr with _ hr
  exact hne hr.symm
theorem RowA.keep {w w' : World} {e T : TypeId} {A : Option Addr} {c r : Nat} {xs vs : List Value} (h : RowA w e A c xs) (hr : Arr w r T vs) (hne : T ≠ e) (hk : Keep (· = r) w w') : RowA w' e A c xs :=
  h.same (fun a ha => hk.block _ (h.lt a ha) (h.ne_arr hr hne a ha))
theorem Keep.grown {F : Nat → Prop} {w w' w'' : World} {row : Option Nat} (h : Keep F w w') (hg : w'.grownBy w'' row) (hr : ∀ k, row = some k → w.heap.size ≤ k) : Keep F w w'' :=
  ⟨hg.os.trans h.os, hg.tape.trans h.tape, hg.output.trans h.output, Nat.le_trans h.size hg.size, fun k hk hn => by
    rw [hg.block k (by have := h.size; omega) (fun e => by have := hr k e.symm; omega), h.block k hk hn]⟩
theorem Keep.alloc {F : Nat → Prop} {w w' : World} (h : Keep F w w') (o : Obj) : Keep F w (w'.alloc o) :=
  ⟨h.os, h.tape, h.output, by have := h.size; simp; omega, fun k hk hn => by rw [Below.heap_alloc _ _ _ (by have := h.size; omega), h.block k hk hn]⟩
theorem Keep.drew {F : Nat → Prop} {w w' : World} (h : Keep F w w') : Keep F w w'.drew := ⟨h.os, h.tape, h.output, h.size, h.block⟩
theorem grown_heap {w w' : World} {row : Option Nat} (hg : w.grownBy w' row) {k : Nat} (hk : k < w.heap.size) (hr : row ≠ some k) : w'.heap[k]? = w.heap[k]? := hg.block k hk (fun e => hr e.symm)
theorem Arr.grown {w w' : World} {h : Nat} {t : TypeId} {vs : List Value} {row : Option Nat} (ha : Arr w h t vs) (hg : w.grownBy w' row) (hr : row ≠ some h) : Arr w' h t vs := ha.same (grown_heap hg ha.lt hr)
theorem Arr.alloc {w : World} {h : Nat} {t : TypeId} {vs : List Value} (ha : Arr w h t vs) (o : Obj) : Arr (w.alloc o) h t vs := ha.same (Below.heap_alloc _ _ _ ha.lt)
theorem RowA.alloc {w : World} {e : TypeId} {A : Option Addr} {c : Nat} {xs : List Value} (h : RowA w e A c xs) (o : Obj) : RowA (w.alloc o) e A c xs := h.same (fun a ha => Below.heap_alloc _ _ _ (h.lt a ha))
theorem RowA.grown {w w' : World} {e : TypeId} {A : Option Addr} {c : Nat} {xs : List Value} {row : Option Nat} (h : RowA w e A c xs) (hg : w.grownBy w' row) (hr : ∀ a, A = some a → row ≠ some a.block) : RowA w' e A c xs := h.same (fun a ha => grown_heap hg (h.lt a ha) (hr a ha))
theorem RowO.alloc {w : World} {base : Nat} {e : TypeId} {A : Option Addr} {c : Nat} {xs : List Value} (h : RowO w base e A c xs) (o : Obj) : RowO (w.alloc o) base e A c xs := h.same (fun a ha => Below.heap_alloc _ _ _ (h.row.lt a ha))
theorem RowO.grown {w w' : World} {base : Nat} {e : TypeId} {A : Option Addr} {c : Nat} {xs : List Value} {row : Option Nat} (h : RowO w base e A c xs) (hg : w.grownBy w' row) (hr : ∀ a, A = some a → row ≠ some a.block) : RowO w' base e A c xs := h.same (fun a ha => grown_heap hg (h.row.lt a ha) (hr a ha))
theorem RowO.setCell {w : World} {base r k : Nat} {e : TypeId} {A : Option Addr} {c : Nat} {xs : List Value} (h : RowO w base e A c xs) (hr : r < base) (v : Value) : RowO (w.setCell ⟨r, k, none⟩ v) base e A c xs :=
  h.same (fun a ha => Below.heap_setCell _ _ _ _ (fun e => by have := (h.ge a ha).1; rw [e] at this; exact absurd this (by show ¬ base ≤ r; omega)))
theorem ivals_one (xs : List Nat) (u : Value) (h : u ∈ ivals xs) : u.oneCell' = true := by
  unfold ivals at h
  rw [List.mem_map] at h
  obtain ⟨x, _, rfl⟩ := h
  rfl
theorem RdB.src {w : World} {N c : Nat} {A : Option Addr} {xs : List Int} (h : RdB w N A xs) (hn : A = none → c = 0) : Src w A c (vals xs) := by
  refine ⟨fun ha => ?_, fun ad ha j u hu => ?_⟩
  · refine ⟨?_, hn ha⟩
    rcases Nat.eq_zero_or_pos xs.length with e | e
    · rw [List.eq_nil_of_length_eq_zero e]; rfl
    · obtain ⟨b, o, e1, _⟩ := h 0 e
      rw [ha] at e1; cases e1
  · have hj : j < xs.length := by
      rcases Nat.lt_or_ge j xs.length with e | e
      · exact e
      · rw [List.getElem?_eq_none (by rw [vals_length]; exact e)] at hu; cases hu
    obtain ⟨b, o, rfl, _⟩ := h j hj
    injection ha with ha
    subst ha
    exact h.news j u hu

theorem Try.info_int : (Try.prog.info? 3).map (fun i => (i.zero, i.size, i.bytes)) = some (some (.int .i64 0), 1, 8) := by kernel_rfl
theorem Try.info_bytes : (Try.prog.info? 30).map (fun i => (i.zero, i.size, i.bytes)) = some (some (.slice none 0 0), 1, 24) := by kernel_rfl
theorem Try.info_bool : (Try.prog.info? 4).map (fun i => (i.zero, i.size, i.bytes)) = some (some (.bool false), 1, 1) := by kernel_rfl
theorem Own.of_row {w : World} {base g c : Nat} {xs : List Int} (h : RowO w base 5 (some ⟨g, 0, none⟩) c (vals xs)) (hu : ∀ k, k < xs.length → U8 (xs.getD k 0)) : Own w base g c xs := by
  refine ⟨?_, hu⟩
  unfold RowO at h
  rw [vals_length] at h
  exact h
theorem getD_snoc {α : Type} (l : List α) (x d : α) (i : Nat) (hi : i < (l ++ [x]).length) : (l ++ [x]).getD i d = if i < l.length then l.getD i d else x := by
  rw [List.getD_eq_getElem?_getD, List.getElem?_append]
  split
  · rw [List.getD_eq_getElem?_getD]
  · rw [List.length_append, List.length_singleton] at hi
    have : i - l.length = 0 := by omega
    rw [this]
    rfl
theorem ivals_snoc (l : List Nat) (i : Nat) : ivals l ++ [.int .i64 (i : Int)] = ivals (l ++ [i]) := by unfold ivals; rw [List.map_append]; rfl
/-- What a row of blocks holds is of one cell each. -/
theorem slices_one {w : World} {F : Nat → Prop} {ws : List Value} {m : Nat} (hl : ws.length = m) (h : ∀ i, i < m → ∃ xs, BlkAt w F (ws.getD i undef) xs) (u : Value) (hu : u ∈ ws) : u.oneCell' = true := by
  obtain ⟨k, hk, rfl⟩ := List.getElem_of_mem hu
  obtain ⟨xs, g, c, e, _⟩ := h k (by omega)
  rw [List.getD_eq_getElem?_getD, List.getElem?_eq_getElem hk] at e
  simp at e
  rw [e]
  rfl

/-- Bytes elsewhere, through a call that writes the thing's struct alone. -/
theorem Keep.rd {w w' : World} {r N : Nat} {A : Option Addr} {xs : List Int} (h : Keep (· = r) w w') (hr : RdB w N A xs) (hN : N ≤ w.heap.size) (hA : ∀ a, A = some a → a.block ≠ r) : RdB w' N A xs := fun k hk => by
  obtain ⟨b, o, rfl, h5, h6, h7⟩ := hr k hk
  refine ⟨b, o, rfl, h5, ?_, h7⟩
  rw [World.cell?_of_block (w := w) (a := ⟨b, o + k, none⟩) (h.block b (by omega) (hA _ rfl))]
  exact h6
theorem Keep.rdF {F : Nat → Prop} {w w' : World} {N : Nat} {A : Option Addr} {xs : List Int} (h : Keep F w w') (hr : RdB w N A xs) (hN : N ≤ w.heap.size) (hA : ∀ a, A = some a → ¬ F a.block) : RdB w' N A xs := fun k hk => by
  obtain ⟨b, o, rfl, h5, h6, h7⟩ := hr k hk
  refine ⟨b, o, rfl, h5, ?_, h7⟩
  rw [World.cell?_of_block (w := w) (a := ⟨b, o + k, none⟩) (h.block b (by omega) (hA _ rfl))]
  exact h6
theorem own_ne {w : World} {base r q : Nat} {e : TypeId} {A : Option Addr} {c : Nat} {xs : List Value} (h : RowO w base e A c xs) (hr : r < base) : (Value.slice A q c).ownBlock ≠ some r := fun e => by
  cases A with
  | none => cases e
  | some a =>
    have := (h.ge a rfl).1
    have e : some a.block = some r := e
    injection e with e
    omega
theorem own_ge {w : World} {base b q : Nat} {e : TypeId} {A : Option Addr} {c : Nat} {xs : List Value} (h : RowO w base e A c xs) (hr : b ≤ base) (k : Nat) (e : (Value.slice A q c).ownBlock = some k) : b ≤ k := by
  cases A with
  | none => cases e
  | some a =>
    have := (h.ge a rfl).1
    have e : some a.block = some k := e
    injection e with e
    omega

end Go.Proofs.Ytilmicekpclmbaa
