/-
  The document's own disk in memory.
-/
import Derived.Test.YtaehgpieichjkaaMem
import Derived.Test.YtaehgpieichjkaaDk
namespace Go.Proofs.Ytaehgpieichjkaa
set_option linter.unusedVariables false
set_option linter.unusedSimpArgs false
open Go.RowKit

/-- Where its parts lie. -/
structure RefP where
  AB : Option Addr
  cB : Nat
  AD : Option Addr
  cD : Nat
  AA : Option Addr
  cA : Nat
  AW : Option Addr
  cW : Nat
  bs : List Value
  ws : List Value
/-- Which blocks are its own, by its rows. -/
def InF (F : Nat → Prop) (A : Option Addr) : Prop := ∀ a, A = some a → F a.block
def refCells (t : Dk) (p : RefP) : List Value := [.slice p.AB t.blk.length p.cB, .slice p.AD t.blk.length p.cD, .slice p.AA t.wt.length p.cA, .slice p.AW t.wt.length p.cW, .int .i64 t.fuse, .bool t.off, .int .i64 (t.wrote : Int)]
structure RefL (w : World) (F : Nat → Prop) (r : Nat) (t : Dk) (p : RefP) : Prop where
  ok : t.Ok
  st : Arr w r 47 (refCells t p)
  rB : RowA w 26 p.AB p.cB p.bs
  lB : p.bs.length = t.blk.length
  eB : ∀ i, i < t.blk.length → BlkAt w F (p.bs.getD i undef) (t.blk.getD i [])
  rD : RowA w 4 p.AD p.cD (bvals t.bad)
  rA : RowA w 3 p.AA p.cA (ivals (t.wt.map (·.1)))
  rW : RowA w 26 p.AW p.cW p.ws
  lW : p.ws.length = t.wt.length
  eW : ∀ i, i < t.wt.length → BlkAt w F (p.ws.getD i undef) (t.wt.getD i (0, [])).2
  fr : F r
  fB : InF F p.AB
  fD : InF F p.AD
  fA : InF F p.AA
  fW : InF F p.AW
  ne : ∀ a a', p.AB = some a → p.AW = some a' → a.block ≠ a'.block
  lt : ∀ k, F k → k < w.heap.size
def RefAt (w : World) (F : Nat → Prop) (r : Nat) (t : Dk) : Prop := ∃ p, RefL w F r t p
def RStep (F : Nat → Prop) (r : Nat) (t : Dk) (w w' : World) : Prop := ∃ F', RefAt w' F' r t ∧ Keep F w w' ∧ Sub F' F w
theorem RefL.stay {w w' : World} {F : Nat → Prop} {r : Nat} {t : Dk} {p : RefP} (h : RefL w F r t p) (k : ∀ j, F j → w'.heap[j]? = w.heap[j]?) (hs : w.heap.size ≤ w'.heap.size) : RefL w' F r t p where
  ok := h.ok
  st := h.st.same (k r h.fr)
  rB := h.rB.same (fun a ha => k _ (h.fB a ha))
  lB := h.lB
  eB := fun i hi => (h.eB i hi).same k (fun _ hg => hg)
  rD := h.rD.same (fun a ha => k _ (h.fD a ha))
  rA := h.rA.same (fun a ha => k _ (h.fA a ha))
  rW := h.rW.same (fun a ha => k _ (h.fW a ha))
  lW := h.lW
  eW := fun i hi => (h.eW i hi).same k (fun _ hg => hg)
  fr := h.fr
  fB := h.fB
  fD := h.fD
  fA := h.fA
  fW := h.fW
  ne := h.ne
  lt := fun j hj => Nat.lt_of_lt_of_le (h.lt j hj) hs
theorem RefAt.stay {w w' : World} {F : Nat → Prop} {r : Nat} {t : Dk} (h : RefAt w F r t) (k : ∀ j, F j → w'.heap[j]? = w.heap[j]?) (hs : w.heap.size ≤ w'.heap.size) : RefAt w' F r t := by
  obtain ⟨p, h⟩ := h
  exact ⟨p, h.stay k hs⟩
theorem setCell_size (w : World) (a : Addr) (v : Value) : (w.setCell a v).heap.size = w.heap.size := by simp [World.setCell]
theorem bvals_len (ts : List Bool) : (bvals ts).length = ts.length := by unfold bvals; rw [List.length_map]
theorem ivals_len (ts : List Nat) : (ivals ts).length = ts.length := by unfold ivals; rw [List.length_map]
/-- One of its words is written anew. -/
theorem RefL.word {w : World} {F : Nat → Prop} {r : Nat} {t t' : Dk} {p : RefP} (h : RefL w F r t p) (k : Nat) (v : Value) (hb : t'.blk = t.blk) (hd : t'.bad = t.bad) (hw : t'.wt = t.wt) (ho : t'.Ok) (hv : (refCells t p).set k v = refCells t' p) : RefL (w.setCell ⟨r, k, none⟩ v) F r t' p where
  ok := ho
  st := by have := h.st.set k v; rw [hv] at this; exact this
  rB := h.rB.far h.st (by decide) v
  lB := by rw [hb]; exact h.lB
  eB := fun i hi => by rw [hb] at hi ⊢; exact (h.eB i hi).far (vs := []) ⟨_, h.st⟩ (by decide) v
  rD := by rw [hd]; exact h.rD.far h.st (by decide) v
  rA := by rw [hw]; exact h.rA.far h.st (by decide) v
  rW := h.rW.far h.st (by decide) v
  lW := by rw [hw]; exact h.lW
  eW := fun i hi => by rw [hw] at hi ⊢; exact (h.eW i hi).far (vs := []) ⟨_, h.st⟩ (by decide) v
  fr := h.fr
  fB := h.fB
  fD := h.fD
  fA := h.fA
  fW := h.fW
  ne := h.ne
  lt := fun j hj => by rw [setCell_size]; exact h.lt j hj
theorem Keep.setCell {F : Nat → Prop} {w w' : World} (h : Keep F w w') {a : Addr} (ha : F a.block) (v : Value) : Keep F w (w'.setCell a v) :=
  ⟨h.os, h.tape, h.output, by rw [setCell_size]; exact h.size, fun k hk hn => by rw [Below.heap_setCell _ _ _ _ (fun e => hn (by rw [e]; exact ha)), h.block k hk hn]⟩

/-- Behind the question whether it goes. -/
def Dk.asked (t : Dk) : Dk := if t.goes then t.burn else t.down
theorem Dk.asked_yes {t : Dk} (h : t.goes = true) : t.asked = t.burn := by unfold Dk.asked; rw [if_pos h]
theorem Dk.asked_no {t : Dk} (h : t.goes = false) : t.asked = t.down := by unfold Dk.asked; rw [if_neg (by rw [h]; decide)]
set_option maxHeartbeats 400000 in
theorem rgoes_any (F : Nat → Prop) (r : Nat) (t : Dk) (p : RefP) (w : World) (h : RefL w F r t p) :
    Calls Try.prog 35 #[.pointer (some ⟨r, 0, none⟩)] w fun e w' => e = .returned (.bool t.goes) ∧ RefL w' F r t.asked p ∧ Keep F w w' := by
  have c4 : w.cell? ⟨r, 4, none⟩ = some (.int .i64 t.fuse) := h.st.cell 4
  have c5 : w.cell? ⟨r, 5, none⟩ = some (.bool t.off) := h.st.cell 5
  have z4 := h.st.frozen 4
  have z5 := h.st.frozen 5
  have f0 := h.ok.f0
  have f1 := h.ok.f1
  have hdn : RefL (w.setCell ⟨r, 5, none⟩ (.bool true)) F r t.down p := h.word 5 (.bool true) rfl rfl rfl h.ok.down rfl
  have HDN := Lib.hid hdn; have H := Lib.hid h
  clear hdn h
  go_enter Try.func35, Try.ntmps35
  cases ho : t.off
  · rw [ho] at c5
    by_cases hf : t.fuse = 0
    · have hg : t.goes = false := by unfold Dk.goes; simp [ho, hf]
      have HG := Lib.hid hg
      rw [hf] at c4
      clear hg ho hf
      go_wp2
      go_ret
      exact ⟨by rw [HG.out]; rfl, by rw [Dk.asked_no HG.out]; exact HDN.out, (Keep.refl F w).setCell H.out.fr _⟩
    · have hg : t.goes = true := by unfold Dk.goes; simp [ho, hf]
      have HG := Lib.hid hg
      by_cases hp : 0 < t.fuse
      · have hb : RefL (w.setCell ⟨r, 4, none⟩ (.int .i64 (t.fuse - 1))) F r t.burn p := H.out.word 4 _ rfl rfl rfl H.out.ok.burn (by unfold refCells Dk.burn; rw [if_pos hp]; rfl)
        have HB := Lib.hid hb
        have t1 : (t.fuse == 0) = false := by simpa using hf
        have t2 : decide (0 < t.fuse) = true := by simpa using hp
        have t3 : decide (t.fuse > 0) = true := by simpa using hp
        clear hg ho hf hb
        generalize t.fuse = fu at *
        go_wp2
        go_ret
        exact ⟨by rw [HG.out]; rfl, by rw [Dk.asked_yes HG.out]; exact HB.out, (Keep.refl F w).setCell H.out.fr _⟩
      · have hb : t.burn = t := by unfold Dk.burn; rw [if_neg hp]
        have HB := Lib.hid hb
        have t1 : (t.fuse == 0) = false := by simpa using hf
        have t2 : decide (0 < t.fuse) = false := by simpa using hp
        have t3 : decide (t.fuse > 0) = false := by simpa using hp
        clear hg ho hf hb
        generalize t.fuse = fu at *
        go_wp2
        go_ret
        exact ⟨by rw [HG.out]; rfl, by rw [Dk.asked_yes HG.out, HB.out]; exact H.out, Keep.refl F w⟩
  · rw [ho] at c5
    have hg : t.goes = false := by unfold Dk.goes; simp [ho]
    have HG := Lib.hid hg
    clear hg ho
    go_wp2
    go_ret
    exact ⟨by rw [HG.out]; rfl, by rw [Dk.asked_no HG.out]; exact HDN.out, (Keep.refl F w).setCell H.out.fr _⟩
end Go.Proofs.Ytaehgpieichjkaa
