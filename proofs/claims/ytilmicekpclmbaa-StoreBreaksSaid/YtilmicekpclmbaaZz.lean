/-
  Store, maths alone: leaves behind writes and flushes; chains of blocks.
  Package store: Put: bytes into the block that is held, block after block.
-/
import Derived.Test.YtilmicekpclmbaaZc
import Derived.Test.YtilmicekpclmbaaZy
namespace Go.Proofs.Ytilmicekpclmbaa
set_option linter.unusedVariables false
set_option linter.unusedSimpArgs false
set_option maxRecDepth 100000
open Go.RowKit

theorem leafD_write {s : Dk} (h : s.Free) {i : Nat} (hi : i < s.blk.length) {L : Lf} (ok : L.Ok) (hr : L.Right) (j : Int) : leafD (s.write i L.put) j = if j = i then some L else leafD s j := by
  have hb : (s.write i L.put).blk.length = s.blk.length := by rw [h.write]
  by_cases hj : 0 ≤ j ∧ j < s.blk.length
  · have e1 : leafD (s.write i L.put) j = ((s.write i L.put).read j.toNat).bind getLf := by unfold leafD; rw [if_pos (by rw [hb]; exact hj)]
    have e2 : leafD s j = (s.read j.toNat).bind getLf := by unfold leafD; rw [if_pos hj]
    rw [e1, e2, Dk.read_write h.goes]
    by_cases hij : j = i
    · rw [if_pos (by omega), if_pos hij]
      exact getLf_put ok hr
    · rw [if_neg (by omega), if_neg hij]
  · have e1 : leafD (s.write i L.put) j = none := by unfold leafD; rw [if_neg (by rw [hb]; exact hj)]
    have e2 : leafD s j = none := by unfold leafD; rw [if_neg hj]
    rw [e1, e2, if_neg (by omega)]
theorem leafD_flush {s : Dk} (h : s.Free) (ok : s.Ok) (j : Int) : leafD s.flush j = leafD s j := by
  have hb : s.flush.blk.length = s.blk.length := by
    rw [h.flush]; exact (Dk.lands_same s.wt { s with wt := [] }).2.2.2.2
  by_cases hj : 0 ≤ j ∧ j < s.blk.length
  · have e1 : leafD s.flush j = (s.flush.read j.toNat).bind getLf := by unfold leafD; rw [if_pos (by rw [hb]; exact hj)]
    have e2 : leafD s j = (s.read j.toNat).bind getLf := by unfold leafD; rw [if_pos hj]
    rw [e1, e2, Dk.read_flush h.goes ok _ (by omega)]
  · have e1 : leafD s.flush j = none := by unfold leafD; rw [if_neg (by rw [hb]; exact hj)]
    have e2 : leafD s j = none := by unfold leafD; rw [if_neg hj]
    rw [e1, e2]
/-- Which block comes next. -/
def headA (l : List (Int × List Int)) (fin : Int) : Int := match l with | [] => fin | p :: _ => p.1
/-- The blocks of a file from a place on: their numbers and bytes; the last one names 'fin'. -/
def Ch (s : Dk) (nr : Int) : Int → List (Int × List Int) → Int → Prop
  | _, [], _ => True
  | p, x :: r, fin => 2 ≤ x.1 ∧ (∃ L, leafD s x.1 = some L ∧ L.kind = 1 ∧ L.file = nr ∧ L.place = p ∧ L.load.take L.size.toNat = x.2 ∧ L.next = headA r fin) ∧ Ch s nr (p + 1) r fin
theorem Ch.keep {s s' : Dk} {nr : Int} : ∀ {l : List (Int × List Int)} {p fin : Int}, Ch s nr p l fin → (∀ x, x ∈ l → leafD s' x.1 = leafD s x.1) → Ch s' nr p l fin
  | [], p, fin, h, _ => trivial
  | x :: r, p, fin, h, k => by
    obtain ⟨h1, ⟨L, g1, g2⟩, h3⟩ := h
    exact ⟨h1, ⟨L, (k x (by simp)).trans g1, g2⟩, h3.keep (fun y hy => k y (by simp [hy]))⟩
theorem headA_snoc (l : List (Int × List Int)) (x : Int × List Int) (fin : Int) : headA (l ++ [x]) fin = headA l x.1 := by cases l <;> rfl
theorem Ch.snoc {s : Dk} {nr : Int} : ∀ {l : List (Int × List Int)} {p fin : Int} {x : Int × List Int}, Ch s nr p l x.1 → 2 ≤ x.1 → (∃ L, leafD s x.1 = some L ∧ L.kind = 1 ∧ L.file = nr ∧ L.place = p + l.length ∧ L.load.take L.size.toNat = x.2 ∧ L.next = fin) → Ch s nr p (l ++ [x]) fin
  | [], p, fin, x, _, h2, ⟨L, g1, g2, g3, g4, g5, g6⟩ => ⟨h2, ⟨L, g1, g2, g3, by simpa using g4, g5, g6⟩, trivial⟩
  | y :: r, p, fin, x, h, h2, ⟨L, g1, g2, g3, g4, g5, g6⟩ => by
    obtain ⟨a1, ⟨M, b1, b2, b3, b4, b5, b6⟩, a3⟩ := h
    refine ⟨a1, ⟨M, b1, b2, b3, b4, b5, by rw [b6, ← headA_snoc r x fin]; rfl⟩, Ch.snoc a3 h2 ⟨L, g1, g2, g3, ?_, g5, g6⟩⟩
    rw [g4]; simp; omega
/-- What the rounds along a chain are. -/
theorem Ch.run {s : Dk} (ho : s.off = false) {nr : Int} : ∀ {l : List (Int × List Int)} {p : Int}, Ch s nr p l 0 → chainR s nr l.length p (headA l 0) = l.map (fun x => ⟨x.1, x.2, 0⟩)
  | [], p, _ => chainR_end0
  | x :: r, p, h => by
    obtain ⟨a1, ⟨L, b1, b2, b3, b4, b5, b6⟩, a3⟩ := h
    have hc : stepC s nr p x.1 = 0 := stepC_zero.2 ⟨L, b1, a1, b2, b3, b4⟩
    show chainR s nr (r.length + 1) p x.1 = _
    rw [chainR_in hc]
    have e1 : ldL s x.1 = L := (ld_some b1).1
    have e2 : stepB s x.1 = x.2 := by unfold stepB; rw [e1]; exact b5
    have e3 : stepN s x.1 = headA r 0 := by unfold stepN; rw [e1]; exact b6
    rw [e2, e3, Ch.run ho a3]
    rfl
theorem chainEnd_ok : ∀ l : List (Int × List Int), chainEnd (l.map (fun x => (⟨x.1, x.2, 0⟩ : Pt))) = 0
  | [] => rfl
  | x :: r => by
    show (if (0 : Int) = 0 then chainEnd (r.map _) else 0) = 0
    rw [if_pos rfl]; exact chainEnd_ok r
/-- A file that lies in a store. -/
structure Lies (s : Dk) (f : Fl) (l : List (Int × List Int)) : Prop where
  n : f.blocks = l.length
  h : f.first = headA l 0
  c : Ch s f.file 0 l 0
theorem Lies.pts {s : Dk} (ho : s.off = false) {f : Fl} {l : List (Int × List Int)} (h : Lies s f l) : chainP s f = l.map (fun x => ⟨x.1, x.2, 0⟩) := by
  unfold chainP
  rw [h.n, h.h, Int.toNat_natCast]
  exact h.c.run ho
theorem Lies.status {s : Dk} (ho : s.off = false) {f : Fl} {l : List (Int × List Int)} (h : Lies s f l) : chainS s f = 0 := by unfold chainS; rw [h.pts ho]; exact chainEnd_ok l
theorem Lies.at_ {s : Dk} (ho : s.off = false) {f : Fl} {l : List (Int × List Int)} (h : Lies s f l) : chainL s f = l.map (·.1) := by
  unfold chainL; rw [if_pos (h.status ho), h.pts ho, List.map_map]; rfl
theorem Lies.keep {s s' : Dk} {f : Fl} {l : List (Int × List Int)} (h : Lies s f l) (k : ∀ x, x ∈ l → leafD s' x.1 = leafD s x.1) : Lies s' f l := ⟨h.n, h.h, h.c.keep k⟩
end Go.Proofs.Ytilmicekpclmbaa
namespace Go.Proofs.Ytilmicekpclmbaa
set_option linter.unusedVariables false
set_option linter.unusedSimpArgs false
set_option maxRecDepth 100000
open Go.RowKit

/-- Some bytes behind those that a leaf has. -/
def fillL (L : Lf) (cs : List Int) : Lf := { L with load := splice L.load L.size.toNat cs, size := L.size + cs.length }
def needG (r : Wr) : Prop := r.file.blocks = 0 ∨ r.held.size = 116
instance (r : Wr) : Decidable (needG r) := by unfold needG; infer_instance
/-- Put, round by round. -/
noncomputable def putF : Nat → St → Wr → List Int → St × Wr
  | 0, s, r, _ => (s, r)
  | k + 1, s, r, bs =>
    if bs = [] ∨ r.status ≠ 0 then (s, r)
    else if needG r then putF k (growF s r).2.1 { (growF s r).2.2 with status := (growF s r).1 } bs
    else putF k s { r with held := fillL r.held (bs.take (116 - r.held.size.toNat)) } (bs.drop (116 - r.held.size.toNat))
theorem putF_end {k : Nat} {s : St} {r : Wr} {bs : List Int} (h : bs = [] ∨ r.status ≠ 0) : putF k s r bs = (s, r) := by
  cases k with
  | zero => rfl
  | succ k => show (if bs = [] ∨ r.status ≠ 0 then _ else _) = _; rw [if_pos h]
theorem putF_grow {k : Nat} {s : St} {r : Wr} {bs : List Int} (h : ¬ (bs = [] ∨ r.status ≠ 0)) (hn : needG r) : putF (k + 1) s r bs = putF k (growF s r).2.1 { (growF s r).2.2 with status := (growF s r).1 } bs := by
  show (if bs = [] ∨ r.status ≠ 0 then _ else _) = _; rw [if_neg h, if_pos hn]
theorem putF_fill {k : Nat} {s : St} {r : Wr} {bs : List Int} (h : ¬ (bs = [] ∨ r.status ≠ 0)) (hn : ¬ needG r) : putF (k + 1) s r bs = putF k s { r with held := fillL r.held (bs.take (116 - r.held.size.toNat)) } (bs.drop (116 - r.held.size.toNat)) := by
  show (if bs = [] ∨ r.status ≠ 0 then _ else _) = _; rw [if_neg h, if_neg hn]
theorem Dk.write_len (s : Dk) (i : Nat) (b : List Int) : (s.write i b).blk.length = s.blk.length ∧ (s.write i b).wt.length ≤ s.wt.length + 1 ∧ (s.write i b).wrote ≤ s.wrote + 1 := by
  unfold Dk.write
  split
  · refine ⟨rfl, by simp [Dk.burn], by simp [Dk.burn]⟩
  · exact ⟨rfl, by show s.wt.length ≤ _; omega, by show s.wrote ≤ _; omega⟩
theorem growF_len (s : St) (r : Wr) : (growF s r).2.1.dk.blk.length = s.dk.blk.length ∧ (growF s r).2.1.dk.wt.length ≤ s.dk.wt.length + 1 ∧ (growF s r).2.1.dk.wrote ≤ s.dk.wrote + 1 := by
  unfold growF
  split
  · exact ⟨rfl, by simp, by simp⟩
  · split
    · exact ⟨rfl, by simp, by simp⟩
    · split
      · exact Dk.write_len _ _ _
      · exact Dk.write_len _ _ _
theorem zeros_bare (k f p : Int) : (leaf3 k f p).bare := fun j _ _ => zeros_at _ _
theorem growF_inv {s : St} {r : Wr} (inv : WrInv s r) : WrInv (growF s r).2.1 (growF s r).2.2 := by
  have hl := growF_len s r
  unfold growF at hl ⊢
  split at hl
  · exact inv
  · rename_i i hf
    have ct := cntT_set hf
    have li := (lowF_is hf).1
    have b1 := inv.b1
    have b0 := inv.b0
    rw [inv.fr] at li
    split at hl
    · rename_i hb
      rw [if_pos hb]
      refine ⟨by show (0 : Int) ≤ 1; decide, by show (1 : Int) + cntT (s.free.set i false) ≤ 512; omega, inv.f, by show (s.free.set i false).length = _; rw [List.length_set]; exact inv.fr, fun _ => ⟨⟨i, rfl, li⟩, rfl, rfl, rfl, ⟨by show (0 : Int) ≤ 0; decide, by show (0 : Int) ≤ 116; decide⟩, zeros_bare _ _ _⟩⟩
    · rename_i hb
      have hpos : 0 < r.file.blocks := by omega
      obtain ⟨⟨a, ha, hal⟩, k1, k2, k3, k4, k5⟩ := inv.h hpos
      rw [if_neg hb]
      split at hl
      · rename_i hz
        rw [if_pos hz]
        refine ⟨by show 0 ≤ r.file.blocks + 1; omega, by show r.file.blocks + 1 + cntT (s.free.set i false) ≤ 512; omega, inv.f, by show (s.free.set i false).length = _; rw [List.length_set, hl.1]; exact inv.fr, fun _ => ⟨⟨i, rfl, by rw [hl.1]; exact li⟩, rfl, rfl, by show r.file.blocks = r.file.blocks + 1 - 1; omega, ⟨by show (0 : Int) ≤ 0; decide, by show (0 : Int) ≤ 116; decide⟩, zeros_bare _ _ _⟩⟩
      · rename_i hz
        rw [if_neg hz]
        refine ⟨b0, by show r.file.blocks + cntT (s.free.set i false) ≤ 512; omega, inv.f, by show (s.free.set i false).length = _; rw [List.length_set, hl.1]; exact inv.fr, fun _ => ⟨⟨a, ha, by rw [hl.1]; exact hal⟩, k1, k2, k3, k4, k5⟩⟩
theorem growF_done (s : St) (r : Wr) (inv : WrInv s r) : (growF s r).1 = 0 → ¬ needG { (growF s r).2.2 with status := (growF s r).1 } := by
  unfold growF
  split
  · intro h; cases h
  · split
    · intro _ h
      rcases h with h | h
      · exact absurd h (by show ¬ (1 : Int) = 0; decide)
      · exact absurd h (by show ¬ (0 : Int) = 116; decide)
    · rename_i hb
      split
      · intro _ h
        have := inv.b0
        rcases h with h | h
        · have h : r.file.blocks + 1 = 0 := h; omega
        · exact absurd h (by show ¬ (0 : Int) = 116; decide)
      · rename_i hz
        intro h; exact absurd h hz
theorem WrInv.status {s : St} {r : Wr} (inv : WrInv s r) (st : Int) : WrInv s { r with status := st } := ⟨inv.b0, inv.b1, inv.f, inv.fr, inv.h⟩
theorem splice_at (L : List Int) (o : Nat) (cs : List Int) (h : o + cs.length ≤ L.length) (j : Nat) : (splice L o cs).getD j 0 = if j < o then L.getD j 0 else if j < o + cs.length then cs.getD (j - o) 0 else L.getD j 0 := by
  unfold splice
  rw [getD_app]
  have e1 : (L.take o).length = o := by rw [List.length_take]; omega
  rw [e1]
  split
  · rw [List.getD_eq_getElem?_getD, List.getElem?_take, if_pos (by assumption), List.getD_eq_getElem?_getD]
  · rw [getD_app]
    split
    · rw [if_pos (by omega)]
    · rw [if_neg (by omega), List.getD_eq_getElem?_getD, List.getElem?_drop, List.getD_eq_getElem?_getD]
      congr 2
      omega
theorem fill_ok {L : Lf} (h : L.Ok) (hs : 0 ≤ L.size ∧ L.size ≤ 116) {cs : List Int} (hc : ∀ k, k < cs.length → U8 (cs.getD k 0)) (hl : L.size + cs.length ≤ 116) : (fillL L cs).Ok := by
  have ll := h.l
  have e : (splice L.load L.size.toNat cs).length = 116 := by rw [length_splice _ _ _ (by omega)]; exact ll
  refine ⟨h.k, h.f, h.p, h.n, ⟨by show _ ≤ L.size + cs.length; omega, by show L.size + cs.length ≤ _; omega⟩, e, fun j hj => ?_⟩
  show U8 ((splice L.load L.size.toNat cs).getD j 0)
  rw [splice_at _ _ _ (by omega)]
  have hj : j < (splice L.load L.size.toNat cs).length := hj
  rw [e] at hj
  split
  · exact h.u j (by omega)
  · split
    · exact hc _ (by omega)
    · exact h.u j (by omega)
theorem fill_inv {s : St} {r : Wr} (inv : WrInv s r) (ho : r.held.Ok) {cs : List Int} (hl : r.held.size + cs.length ≤ 116) : WrInv s { r with held := fillL r.held cs } := by
  refine ⟨inv.b0, inv.b1, inv.f, inv.fr, fun hb => ?_⟩
  obtain ⟨h1, h2, h3, h4, h5, h6⟩ := inv.h hb
  refine ⟨h1, h2, h3, h4, ⟨by show 0 ≤ r.held.size + cs.length; omega, hl⟩, fun j hj hj2 => ?_⟩
  show (splice r.held.load r.held.size.toNat cs).getD j 0 = 0
  have ll := ho.l
  have hj : r.held.size + cs.length ≤ (j : Int) := hj
  rw [splice_at _ _ _ (by omega), if_neg (by omega), if_neg (by omega)]
  exact h6 j (by omega) hj2
theorem vals_splice (L : List Int) (o : Nat) (cs : List Int) : vals (splice L o cs) = splice (vals L) o (vals cs) := by
  unfold splice
  rw [vals_app, vals_app, vals_length]
  unfold vals
  rw [List.map_take, List.map_drop]
theorem splice_pre {α : Type} (P L : List α) (o : Nat) (cs : List α) : splice (P ++ L) (P.length + o) cs = P ++ splice L o cs := by
  unfold splice
  rw [List.take_append, List.drop_append, List.take_of_length_le (by omega), List.drop_eq_nil_of_le (by omega)]
  simp [Nat.add_assoc]
theorem splice_post {α : Type} (L Q : List α) (o : Nat) (cs : List α) (h : o + cs.length ≤ L.length) : splice (L ++ Q) o cs = splice L o cs ++ Q := by
  unfold splice
  rw [List.take_append_of_le_length (by omega), List.drop_append_of_le_length h]
  simp
/-- A copy into the load of the leaf that is held. -/
theorem wrv_fill {b : Nat} {r : Wr} (h : r.held.Ok) (hs : 0 ≤ r.held.size) {cs : List Int} (hl : r.held.size + cs.length ≤ 116) : splice (wrv b r) (11 + r.held.size.toNat) (vals cs) = wrv b { r with held := { r.held with load := splice r.held.load r.held.size.toNat cs } } := by
  have e : wrv b r = [.pointer (some ⟨b, 0, none⟩), .int .i64 r.status, .int .i64 r.file.name, .int .i64 r.file.file, .int .i64 r.file.first, .int .i64 r.file.blocks, .int .i64 r.held.kind, .int .i64 r.held.file, .int .i64 r.held.place, .int .i64 r.held.next, .int .i64 r.held.size] ++ (vals r.held.load ++ [.int .i64 r.at_]) := rfl
  rw [e]
  have e2 := splice_pre [.pointer (some ⟨b, 0, none⟩), .int .i64 r.status, .int .i64 r.file.name, .int .i64 r.file.file, .int .i64 r.file.first, .int .i64 r.file.blocks, .int .i64 r.held.kind, .int .i64 r.held.file, .int .i64 r.held.place, .int .i64 r.held.next, .int .i64 r.held.size] (vals r.held.load ++ [Value.int .i64 r.at_]) r.held.size.toNat (vals cs)
  have e3 : ([.pointer (some ⟨b, 0, none⟩), .int .i64 r.status, .int .i64 r.file.name, .int .i64 r.file.file, .int .i64 r.file.first, .int .i64 r.file.blocks, .int .i64 r.held.kind, .int .i64 r.held.file, .int .i64 r.held.place, .int .i64 r.held.next, .int .i64 r.held.size] : List Value).length = 11 := rfl
  rw [e3] at e2
  rw [e2, splice_post _ _ _ _ (by rw [vals_length, vals_length, h.l]; omega), ← vals_splice]
  rfl
open Classical in
/-- How many rounds are left at most. -/
noncomputable def mea (g : Nat) (bv : Value) (w : World) : Nat := if w.cell? ⟨g, 1, none⟩ = some (.int .i64 0) then 1 + 2 * (match bv with | .slice _ n _ => n | _ => 0) + (if w.cell? ⟨g, 5, none⟩ = some (.int .i64 0) ∨ w.cell? ⟨g, 10, none⟩ = some (.int .i64 116) then 1 else 0) else 0
theorem mea_of {w : World} {g b : Nat} {r : Wr} (h : WrAt w g b r) (A : Option Addr) (n c : Nat) : mea g (.slice A n c) w = if r.status = 0 then 1 + 2 * n + (if needG r then 1 else 0) else 0 := by
  obtain ⟨_, h1, _, _, h5, h10⟩ := h.cells
  unfold mea needG
  rw [h1, h5, h10]
  simp
theorem RdB.setFar {w : World} {N : Nat} {A : Option Addr} {xs : List Int} {g : Nat} (h : RdB w N A xs) (hA : ∀ a, A = some a → a.block ≠ g) (k : Nat) (v : Value) : RdB (w.setCell ⟨g, k, none⟩ v) N A xs := fun j hj => by
  obtain ⟨b, o, h1, h2, h3, h4⟩ := h j hj
  refine ⟨b, o, h1, h2, ?_, h4⟩
  rw [World.cell?_setCell_other _ _ _ _ (fun e => hA _ h1 (by injection e with e; exact e.symm))]
  exact h3
theorem RdB.kept {w w' : World} {N : Nat} {A : Option Addr} {xs : List Int} {F : Nat → Prop} {g : Nat} (h : RdB w N A xs) (hN : N ≤ w.heap.size) (k : Keep (fun q => F q ∨ q = g) w w') (hA : ∀ a, A = some a → ¬ F a.block ∧ a.block ≠ g) : RdB w' N A xs := fun j hj => by
  obtain ⟨b, o, h1, h2, h3, h4⟩ := h j hj
  refine ⟨b, o, h1, h2, ?_, h4⟩
  rw [World.cell?_of_block (w := w) (a := ⟨b, o + j, none⟩) (k.block b (by omega) (fun e => by rcases e with e | e; exact (hA _ h1).1 e; exact (hA _ h1).2 e))]
  exact h3
/-- A copy in a drawn region: all blocks but one are as they were. -/
theorem step_copy_k {P : Program} {ops : Array Oper} {o : Oper} {a : Act} {w : World} {K : Act → World → Prop} {Q : Exit → Act → World → Prop} {E : Prop} (hgd : o.guard = none) (d s : Operand) (dT sT : TypeId)
    (ho : o.op = .call { callee := .builtin .copy, args := #[d, s], argTypes := #[dT, sT] }) (elem : TypeId) (hu : P.underlying dT = some (.slice elem)) (hsz : (P.info? elem).map (·.size) = some 1)
    (g off : Nat) (ad : Addr) (dLen dCap sLen sCap : Nat) (hd : a.eval d = .slice (some ⟨g, off, none⟩) dLen dCap) (hs : a.eval s = .slice (some ad) sLen sCap)
    (cur : List Value) (t : TypeId) (hg : w.heap[g]? = some (.cells cur.toArray t (0, 0))) (cs : List Value) (m : Nat) (hm : cs.length = m) (hn : m = Nat.min sLen dLen) (hpos : 0 < m)
    (hsrc : ∀ j v, cs[j]? = some v → w.cell? (ad.add j) = some v) (hfit : off + m ≤ cur.length) (h1 : ∀ v ∈ cs, v.oneCell' = true)
    (h : ∀ w', w'.heap[g]? = some (.cells (splice cur off cs).toArray t (0, 0)) → Keep (· = g) w w' → K (a.put o.dst (.int .i64 m)) w') :
    if Region.wanted o (yielded ops a.tmps) = true then Oper.wp P o a w K Q else E := by
  have hw : Region.wanted o (yielded ops a.tmps) = true := by simp [Region.wanted, hgd]
  rw [if_pos hw]
  have hrun := run_copy_row (P := P) w dT sT o.type elem g off dLen dCap ad sLen sCap cur.toArray t cs hu hsz hg (by rw [hm]; exact hn) hsrc (by simp; omega) h1
  unfold Oper.wp
  simp [execOp, ho, resolve, invoke, builtin, hd, hs, hrun, Result.andThen]
  have := h _ (show _ = _ by simpa [splice] using setRow_heap w g _ _ t _ hg) (keep_setRow w g _)
  rw [← hm] at this
  exact this
/-- What is known at the head of Put's loop. -/
structure PutI (F : Nat → Prop) (b g N : Nat) (R : St × Wr) (w wr : World) (F1 : Nat → Prop) (s1 : St) (r1 : Wr) (k : Nat) (A1 : Option Addr) (n1 c1 : Nat) (bs1 : List Int) : Prop where
  len : bs1.length = n1
  cap : n1 ≤ c1
  cm : c1 ≤ maxLen
  rd : RdB wr N A1 bs1
  far : ∀ a, A1 = some a → ¬ F1 a.block ∧ a.block ≠ g ∧ a.block < N
  st : StAt wr F1 b s1
  wr1 : WrAt wr g b r1
  ng : ¬ F1 g
  inv : WrInv s1 r1
  wt : s1.dk.wt.length + k ≤ 1000000
  wro : s1.dk.wrote + k ≤ 1000000000000
  kp : Keep (fun q => F q ∨ q = g) w wr
  sb : Sub F1 F w
  eq : putF k s1 r1 bs1 = R
  fuel : (if r1.status = 0 then 2 * n1 + (if needG r1 then 1 else 0) else 0) ≤ k
set_option maxHeartbeats 16000000 in
theorem put_any' (F b s) (g : Nat) (r : Wr) (A : Option Addr) (n c N : Nat) (bs : List Int) (w : World) (h : StAt w F b s) (hr : WrAt w g b r) (hg : ¬ F g) (inv : WrInv s r) (hl : bs.length = n) (hc : n ≤ c) (hcm : c ≤ maxLen) (hn : n ≤ 100000) (hb : RdB w N A bs) (hN : N ≤ w.heap.size) (hA : ∀ a, A = some a → ¬ F a.block ∧ a.block ≠ g ∧ a.block < N)
    (hw : s.dk.wt.length + (2 * n + 1) ≤ 1000000) (hv : s.dk.wrote + (2 * n + 1) ≤ 1000000000000) :
    Calls Try.prog 23 #[.pointer (some ⟨g, 0, none⟩), .slice A n c] w fun e w' => e = .returned (.int .i64 (putF (2 * n + 1) s r bs).2.status) ∧ WrTo F b g (putF (2 * n + 1) s r bs).1 (putF (2 * n + 1) s r bs).2 w w' := by
  obtain ⟨R, hR⟩ : ∃ R, putF (2 * n + 1) s r bs = R := ⟨_, rfl⟩
  have P0 : Hid (PutI F b g N R w w F s r (2 * n + 1) A n c bs) := Lib.hid ⟨hl, hc, hcm, hb, hA, h, hr, hg, inv, hw, hv, Keep.refl _ _, Sub.refl _ _, hR, by split <;> (try split) <;> omega⟩
  rw [hR]
  clear h hr hg inv hl hc hcm hb hA hw hv hR
  have hsz : (Try.prog.info? 5).map (·.size) = some 1 := by kernel_rfl
  have HSZ := Lib.hid hsz
  clear hsz
  go_enter Try.func23, Try.ntmps23
  go_wp2
  go_loopw [1] (fun bv wr => ∃ (F1 : Nat → Prop) (s1 : St) (r1 : Wr) (k : Nat) (A1 : Option Addr) (n1 c1 : Nat) (bs1 : List Int), bv = .slice A1 n1 c1 ∧ n1 ≤ n ∧ PutI F b g N R w wr F1 s1 r1 k A1 n1 c1 bs1) (fun bv wr => mea g bv wr)
  case atStart => exact ⟨F, s, r, _, A, n, c, bs, rfl, Nat.le_refl _, P0.out⟩
  case round =>
    obtain ⟨F1, s1, r1, k, A1, n1, c1, bs1, rfl, hn1, hp⟩ := hrel
    have HP := Lib.hid hp
    obtain ⟨x0, x1, x3, x4, x5, x10⟩ := hp.wr1.cells
    have z1 := hp.wr1.frozen 1
    have cap1 := hp.cap; have cm1 := hp.cm
    clear hp P0
    unfold maxLen at cm1
    by_cases h0 : n1 = 0
    · subst h0
      have E : Hid (R = (s1, r1)) := Lib.hid (by rw [← HP.out.eq]; exact putF_end (Or.inl (List.eq_nil_of_length_eq_zero HP.out.len)))
      go_wp2
      go_ret
      rw [E.out]
      exact ⟨rfl, F1, HP.out.st, HP.out.wr1, HP.out.kp, HP.out.sb, HP.out.ng⟩
    · have hpos : 0 < n1 := by omega
      have hbn : bs1 ≠ [] := fun e => h0 (by rw [← HP.out.len, e]; rfl)
      by_cases hs : r1.status = 0
      · rw [hs] at x1
        obtain ⟨k', hk'⟩ : ∃ k', k = k' + 1 := ⟨k - 1, by have := HP.out.fuel; rw [if_pos hs] at this; omega⟩
        have HK := Lib.hid hk'
        have hne : ¬ (bs1 = [] ∨ r1.status ≠ 0) := fun e => by rcases e with e | e; exact hbn e; exact e hs
        have HNE := Lib.hid hne
        have HS := Lib.hid hs
        have M0 : Hid (mea g (.slice A1 n1 c1) wr = 1 + 2 * n1 + (if needG r1 then 1 else 0)) := Lib.hid (by rw [mea_of HP.out.wr1, if_pos hs])
        clear hk' hne hs hbn
        by_cases hgr : needG r1
        · have EQ : Hid (putF k' (growF s1 r1).2.1 { (growF s1 r1).2.2 with status := (growF s1 r1).1 } bs1 = R) := Lib.hid (by rw [← HP.out.eq, HK.out, putF_grow HNE.out hgr])
          have GR := Lib.hid (grow_any F1 b s1 g r1 wr HP.out.st HP.out.wr1 HP.out.ng HP.out.inv (by have := HP.out.wt; omega) (by have := HP.out.wro; omega))
          have HGR := Lib.hid hgr
          obtain ⟨BL, hBL⟩ : ∃ q, r1.file.blocks = q := ⟨_, rfl⟩
          obtain ⟨SZ, hSZ⟩ : ∃ q, r1.held.size = q := ⟨_, rfl⟩
          rw [hBL] at x5
          rw [hSZ] at x10
          have dd : (BL == 0) = true ∨ ((BL == 0) = false ∧ (SZ == 116) = true) := by
            unfold needG at hgr
            rw [hBL, hSZ] at hgr
            by_cases e : BL = 0
            · left; simp [e]
            · right; rcases hgr with q | q
              · exact absurd q e
              · simp [e, q]
          clear hgr hBL hSZ
          rcases dd with t | ⟨t, t2⟩
          all_goals
            go_wp2_with fail
            refine GR.out.mono ?_
            rintro e w2 ⟨rfl, F2, hs2, hr2, k2, sb2, hg2⟩
            have HS2 := Lib.hid hs2; have HR2 := Lib.hid hr2; have K2 := Lib.hid k2; have SB2 := Lib.hid sb2; have HG2 := Lib.hid hg2
            have y1 := hr2.cells.2.1
            have yz := hr2.frozen 1
            have W3 := Lib.hid (hr2.status (v := (growF s1 r1).1))
            have INV2 := Lib.hid (growF_inv HP.out.inv)
            have LEN2 := Lib.hid (growF_len s1 r1)
            have GST : Hid ((growF s1 r1).1 = 0 → ¬ needG { (growF s1 r1).2.2 with status := (growF s1 r1).1 }) := Lib.hid (growF_done s1 r1 HP.out.inv)
            obtain ⟨x, hx⟩ : ∃ x, growF s1 r1 = x := ⟨_, rfl⟩
            rw [hx] at HS2 HR2 y1 W3 INV2 LEN2 EQ GST ⊢
            obtain ⟨st, s2, r2⟩ := x
            clear GR hs2 hr2 k2 sb2 hg2 hx
            dsimp only at *
            go_wp2
            go_roundw
            case rel =>
              refine ⟨F2, s2, { r2 with status := st }, k', A1, n1, c1, bs1, rfl, hn1, ⟨HP.out.len, HP.out.cap, HP.out.cm, ?_, ?_, ?_, W3.out, HG2.out, INV2.out.status st, ?_, ?_, ?_, HP.out.sb.trans SB2.out HP.out.kp.size, EQ.out, ?_⟩⟩
              · exact (HP.out.rd.kept (by have := HP.out.kp.size; omega) K2.out (fun a ha => ⟨(HP.out.far a ha).1, (HP.out.far a ha).2.1⟩)).setFar (fun a ha => (HP.out.far a ha).2.1) _ _
              · intro a ha
                refine ⟨fun e => ?_, (HP.out.far a ha).2⟩
                rcases SB2.out _ e with q | q
                · exact (HP.out.far a ha).1 q
                · have := (HP.out.far a ha).2.2; have := HP.out.kp.size; omega
              · exact HS2.out.other (Keep.cellF (a := ⟨g, 1, none⟩) (Keep.refl (· = g) w2) rfl _) HG2.out
              · have := LEN2.out.2.1; have := HP.out.wt; have := HK.out; omega
              · have := LEN2.out.2.2; have := HP.out.wro; have := HK.out; omega
              · refine HP.out.kp.trans (fun q hq => ?_) (Keep.cellF (a := ⟨g, 1, none⟩) K2.out (Or.inr rfl) _)
                rcases hq with hq | hq
                · rcases HP.out.sb q hq with e | e
                  · exact Or.inl (Or.inl e)
                  · exact Or.inr e
                · exact Or.inl (Or.inr hq)
              · have hf := HP.out.fuel
                have hk := HK.out
                rw [if_pos HS.out, if_pos HGR.out] at hf
                show (if st = 0 then 2 * n1 + (if needG { r2 with status := st } then 1 else 0) else 0) ≤ k'
                split
                · rename_i hz
                  rw [if_neg (GST.out hz)]
                  omega
                · omega
            case measure =>
              show mea g (.slice A1 n1 c1) _ < mea g (.slice A1 n1 c1) wr
              rw [M0.out, if_pos HGR.out, mea_of W3.out]
              show (if st = 0 then 1 + 2 * n1 + (if needG { r2 with status := st } then 1 else 0) else 0) < _
              split
              · rename_i hz
                rw [if_neg (GST.out hz)]
                omega
              · omega
        · have nb : r1.file.blocks ≠ 0 := fun e => hgr (Or.inl e)
          have ns : r1.held.size ≠ 116 := fun e => hgr (Or.inr e)
          have hbp : 0 < r1.file.blocks := by have := HP.out.inv.b0; omega
          obtain ⟨-, -, -, -, ⟨s0, s1'⟩, -⟩ := HP.out.inv.h hbp
          have HNG := Lib.hid hgr
          obtain ⟨sz, hsz⟩ : ∃ sz : Nat, r1.held.size = (sz : Int) := ⟨r1.held.size.toNat, by omega⟩
          have HSIZE := Lib.hid hsz
          have sz1 : sz < 116 := by omega
          have sz2 : (0 : Int) ≤ (sz : Int) := by omega
          have sz3 : (sz : Int) ≤ 116 := by omega
          have t1 : (r1.file.blocks == 0) = false := by rw [beq_eq_false_iff_ne]; exact nb
          have t2 : ((sz : Int) == 116) = false := by rw [beq_eq_false_iff_ne]; omega
          rw [hsz] at x10
          obtain ⟨BL, hBL⟩ : ∃ q, r1.file.blocks = q := ⟨_, rfl⟩
          rw [hBL] at x5 t1
          have HO := Lib.hid HP.out.wr1.2.h
          obtain ⟨m, hm⟩ : ∃ m, m = Nat.min n1 (116 - sz) := ⟨_, rfl⟩
          have m0 : 0 < m := by rw [hm]; exact Nat.lt_min.2 ⟨hpos, by omega⟩
          have m1 : m ≤ n1 := by rw [hm]; exact Nat.min_le_left _ _
          have m2 : m ≤ 116 - sz := by rw [hm]; exact Nat.min_le_right _ _
          have TK : Hid (bs1.take (116 - sz) = bs1.take m ∧ bs1.drop (116 - sz) = bs1.drop m) := Lib.hid (by
            rcases Nat.le_total n1 (116 - sz) with e | e
            · have : m = n1 := by rw [hm]; exact Nat.min_eq_left e
              rw [this, List.take_of_length_le (by rw [HP.out.len]; exact e), List.take_of_length_le (by rw [HP.out.len]; exact Nat.le_refl _), List.drop_eq_nil_of_le (by rw [HP.out.len]; exact e), List.drop_eq_nil_of_le (by rw [HP.out.len]; exact Nat.le_refl _)]
              exact ⟨rfl, rfl⟩
            · have : m = 116 - sz := by rw [hm]; exact Nat.min_eq_right e
              rw [this]; exact ⟨rfl, rfl⟩)
          have HM := Lib.hid hm
          have CL : Hid ((bs1.take m).length = m) := Lib.hid (by rw [List.length_take, HP.out.len]; omega)
          obtain ⟨b', o', hA1, -⟩ := HP.out.rd 0 (by rw [HP.out.len]; exact hpos)
          subst hA1
          have EQ : Hid (putF k' s1 { r1 with held := fillL r1.held (bs1.take m) } (bs1.drop m) = R) := Lib.hid (by
            have := HP.out.eq
            rw [HK.out, putF_fill HNE.out HNG.out, HSIZE.out, Int.toNat_natCast, TK.out.1, TK.out.2] at this
            exact this)
          have RD := Lib.hid HP.out.rd
          have U8S := Lib.hid (HP.out.rd.u8s)
          have WRH : Hid (wr.drew.heap[g]? = some (.cells (wrv b r1).toArray 96 (0, 0))) := Lib.hid HP.out.wr1.1
          have WLEN := Lib.hid (wrv_len (b := b) HP.out.wr1.2)
          have SRC : Hid (∀ j v, (vals (bs1.take m))[j]? = some v → wr.drew.cell? ((⟨b', o', none⟩ : Addr).add j) = some v) := Lib.hid (fun j v hv => by
            have hj : j < m := by
              rcases Nat.lt_or_ge j m with e | e
              · exact e
              · rw [List.getElem?_eq_none (by rw [vals_length, CL.out]; exact e)] at hv; cases hv
            obtain ⟨b2, o2, e1, _, e2, _⟩ := RD.out j (by rw [HP.out.len]; omega)
            injection e1 with e1; injection e1 with e1 e3; subst e1 e3
            rw [Addr.add_mid]
            show wr.cell? _ = _
            rw [e2, ← hv, vals_at _ _ (by rw [CL.out]; exact hj), getD_take _ _ _ (by rw [CL.out]; exact hj)])
          have VL : Hid ((vals (bs1.take m)).length = m) := Lib.hid (by rw [vals_length, CL.out])
          obtain ⟨V, hV⟩ : ∃ V, vals (bs1.take m) = V := ⟨_, rfl⟩
          obtain ⟨Y, hY⟩ : ∃ Y, wrv b r1 = Y := ⟨_, rfl⟩
          have V1 : Hid (∀ v ∈ V, v.oneCell' = true) := Lib.hid (by rw [← hV]; exact fun v hv => vals_one _ v hv)
          rw [hV] at SRC VL
          rw [hY] at WRH WLEN
          have HV := Lib.hid hV; have HY := Lib.hid hY
          clear nb ns hbp s0 s1' hgr hsz hBL hm hV hY
          go_wp2_with fail
          go_region_law (refine step_copy_k rfl (.tmp 44) (.tmp 45) 30 30 rfl 5 Try.underlying30 HSZ.out g (11 + sz) ⟨b', o', none⟩ (116 - sz) (116 - sz) n1 c1 (by show Value.slice (some (if 116 = sz then _ else _)) _ _ = _; rw [if_neg (by omega)]) (by rfl) Y 96 WRH.out V m VL.out HM.out m0 SRC.out (by rw [WLEN.out]; omega) V1.out ?_; intro w4 hg4 hk4)
          have FO : Hid (fillL r1.held (bs1.take m)).Ok := Lib.hid (fill_ok HO.out (by rw [HSIZE.out]; exact ⟨sz2, sz3⟩) (fun k hk => by rw [CL.out] at hk; rw [getD_take _ _ _ (by rw [CL.out]; exact hk)]; exact U8S.out k (by rw [HP.out.len]; omega)) (by rw [HSIZE.out, CL.out]; omega))
          have W4 : Hid (WrAt w4 g b { r1 with held := { r1.held with load := splice r1.held.load r1.held.size.toNat (bs1.take m) } }) := Lib.hid ⟨by
            show w4.heap[g]? = _
            rw [← wrv_fill HO.out (by rw [HSIZE.out]; exact sz2) (by rw [HSIZE.out, CL.out]; omega), HSIZE.out, Int.toNat_natCast, HY.out, HV.out]
            exact hg4, ⟨HP.out.wr1.2.f, ⟨HO.out.k, HO.out.f, HO.out.p, HO.out.n, HO.out.s, FO.out.l, FO.out.u⟩⟩⟩
          have y10 : w4.cell? ⟨g, 10, none⟩ = some (.int .i64 (sz : Int)) := by
            have := W4.out.cells.2.2.2.2.2
            rw [this]
            show some (Value.int .i64 r1.held.size) = _
            rw [HSIZE.out]
          have yz := W4.out.frozen 10
          have W5 : Hid (WrAt (w4.setCell ⟨g, 10, none⟩ (.int .i64 ((sz : Int) + (m : Int)))) g b { r1 with held := fillL r1.held (bs1.take m) }) := Lib.hid (by
            have := W4.out.size (v := (sz : Int) + (m : Int)) ⟨by omega, by omega⟩
            have e : fillL r1.held (bs1.take m) = { r1.held with load := splice r1.held.load r1.held.size.toNat (bs1.take m), size := (sz : Int) + (m : Int) } := by unfold fillL; rw [HSIZE.out, CL.out]
            rw [e]; exact this)
          have HK4 := Lib.hid hk4
          clear hg4 hk4
          have i1 : (m : Int) ≤ (n1 : Int) := by omega
          have i2 : (m : Int) ≤ (c1 : Int) := by omega
          have i3 : (m : Int) ≤ 116 := by omega
          have i4 : (0 : Int) ≤ (m : Int) := by omega
          go_wp2_with fail
          have kk : Keep (· = g) wr (w4.setCell ⟨g, 10, none⟩ (.int .i64 ((sz : Int) + (m : Int)))) := Keep.cellF (a := ⟨g, 10, none⟩) (((Keep.refl (· = g) wr).drew).trans (Sub.refl _ _) HK4.out) rfl _
          refine ⟨⟨F1, s1, _, k', _, n1 - m, c1 - m, bs1.drop m, rfl, by omega, ⟨by rw [List.length_drop, HP.out.len], by omega, by have := HP.out.cm; omega, ?_, ?_, HP.out.st.other kk HP.out.ng, W5.out, HP.out.ng, fill_inv HP.out.inv HO.out (by rw [HSIZE.out, CL.out]; omega), by have := HP.out.wt; have := HK.out; omega, by have := HP.out.wro; have := HK.out; omega, ?_, HP.out.sb, EQ.out, ?_⟩⟩, ?_⟩
          · intro j hj
            rw [List.length_drop, HP.out.len] at hj
            obtain ⟨b2, o2, e1, e2, e3, e4⟩ := RD.out (m + j) (by rw [HP.out.len]; omega)
            injection e1 with e1; injection e1 with e1 e1'; subst e1 e1'
            have eg : (bs1.drop m).getD j 0 = bs1.getD (m + j) 0 := by rw [List.getD_eq_getElem?_getD, List.getElem?_drop, List.getD_eq_getElem?_getD]
            rw [eg]
            refine ⟨b', o' + m, by rw [if_neg (by omega)], e2, ?_, e4⟩
            rw [World.cell?_of_block (w := wr) (a := ⟨b', o' + m + j, none⟩) (kk.block b' (by have := HP.out.far _ rfl; have := HP.out.kp.size; omega) (HP.out.far _ rfl).2.1), Nat.add_assoc]
            exact e3
          · intro a ha
            have : a.block = b' := by
              split at ha
              · injection ha with ha; subst ha; rfl
              · injection ha with ha; subst ha; rfl
            rw [this]
            exact HP.out.far _ rfl
          · exact HP.out.kp.trans (fun q hq => Or.inl hq) kk.orG
          · have hf := HP.out.fuel
            have hk := HK.out
            rw [if_pos HS.out, if_neg HNG.out] at hf
            show (if r1.status = 0 then 2 * (n1 - m) + (if needG _ then 1 else 0) else 0) ≤ k'
            rw [if_pos HS.out]
            split <;> omega
          · rw [M0.out, if_neg HNG.out, mea_of W5.out]
            show (if r1.status = 0 then 1 + 2 * (n1 - m) + (if needG _ then 1 else 0) else 0) < _
            rw [if_pos HS.out]
            split <;> omega
      · have ds : (r1.status == 0) = false := by simp [hs]
        have E : Hid (R = (s1, r1)) := Lib.hid (by rw [← HP.out.eq]; exact putF_end (Or.inr hs))
        obtain ⟨st, hst⟩ : ∃ st, r1.status = st := ⟨_, rfl⟩
        have HST := Lib.hid hst
        rw [hst] at x1 ds
        clear hst h0 hs hbn
        go_wp2
        go_ret
        rw [E.out, HST.out]
        exact ⟨rfl, F1, HP.out.st, HP.out.wr1, HP.out.kp, HP.out.sb, HP.out.ng⟩
end Go.Proofs.Ytilmicekpclmbaa
