/-
  The document's own RightCard (sheafref5): whether a card is right.
  A catalog in memory: its cells, its row of files; cards and files compared.
-/
import Derived.Test.YtilmicekpclmbaaZc
import Derived.Test.YtilmicekpclmbaaZb
import Derived.WalkSpells
import Derived.WalkLawsBesides
import Derived.Test.YtilmicekpclmbaaZd
import Derived.Laws.StructEq
namespace Go.Proofs.Ytilmicekpclmbaa
set_option linter.unusedVariables false
set_option linter.unusedSimpArgs false
open Go.RowKit

def I64x (n : Int) : Prop := -9223372036854775808 ≤ n ∧ n ≤ 9223372036854775807
structure Cd.Ok (q : Cd) : Prop where
  a : I64x q.frm
  b : I64x q.to_
  c : I64x q.budget
  d : I64x q.fan
/-- A card's cells. -/
def cdv (c : Cd) : List Value := [.int .i64 c.frm, .int .i64 c.to_, .int .i64 c.budget, .int .i64 c.fan]
/-- Is it right? -/
def Cd.rt (c : Cd) : Bool := decide (0 ≤ c.frm) && (decide (c.frm ≤ c.to_) && (decide (c.to_ ≤ 1073741824) && (decide (2 ≤ c.budget) && (decide (c.budget ≤ 64) && (decide (2 ≤ c.fan) && decide (c.fan ≤ 16))))))
theorem Cd.rt_iff {c : Cd} : c.rt = true ↔ c.Right := by
  unfold Cd.rt
  simp only [Bool.and_eq_true, decide_eq_true_eq]
  exact ⟨fun ⟨a, b, c, d, e, f, g⟩ => ⟨a, b, c, ⟨d, e⟩, ⟨f, g⟩⟩, fun ⟨a, b, c, ⟨d, e⟩, ⟨f, g⟩⟩ => ⟨a, b, c, d, e, f, g⟩⟩
theorem Cd.rt_no {c : Cd} : c.rt = false ↔ ¬ c.Right := by rw [← Cd.rt_iff]; cases c.rt <;> simp
end Go.Proofs.Ytilmicekpclmbaa
namespace Go.Proofs.Ytilmicekpclmbaa
set_option linter.unusedVariables false
set_option linter.unusedSimpArgs false
open Go.RowKit

structure Fl.Ok (q : Fl) : Prop where
  a : I64x q.name
  b : I64x q.file
  c : I64x q.first
  d : I64x q.blocks
def flv (f : Fl) : List Value := [.int .i64 f.name, .int .i64 f.file, .int .i64 f.first, .int .i64 f.blocks]
theorem Fl.zero_ok : Fl.zero.Ok := ⟨⟨by decide, by decide⟩, ⟨by decide, by decide⟩, ⟨by decide, by decide⟩, ⟨by decide, by decide⟩⟩
/-- A slice of files that reads as a list, in blocks below N. -/
def FlR (w : World) (N : Nat) (A : Option Addr) (l : List Fl) : Prop :=
  ∀ i, i < l.length → ∃ b o, A = some ⟨b, o, none⟩ ∧ b < N ∧ w.cell? ⟨b, o + i * 4, none⟩ = some (.int .i64 (flAt l i).name) ∧ w.cell? ⟨b, o + i * 4 + 1, none⟩ = some (.int .i64 (flAt l i).file) ∧ w.cell? ⟨b, o + i * 4 + 2, none⟩ = some (.int .i64 (flAt l i).first) ∧ w.cell? ⟨b, o + i * 4 + 3, none⟩ = some (.int .i64 (flAt l i).blocks) ∧ (flAt l i).Ok
theorem FlR.below {w w' : World} {N : Nat} {A : Option Addr} {l : List Fl} (h : FlR w N A l) (hb : Below N w w') : FlR w' N A l := fun i hi => by
  obtain ⟨b, o, h1, h2, h3, h4, h5, h6, h7⟩ := h i hi
  exact ⟨b, o, h1, h2, by rw [hb.cell (p := ⟨b, o + i * 4, none⟩) h2]; exact h3, by rw [hb.cell (p := ⟨b, o + i * 4 + 1, none⟩) h2]; exact h4, by rw [hb.cell (p := ⟨b, o + i * 4 + 2, none⟩) h2]; exact h5, by rw [hb.cell (p := ⟨b, o + i * 4 + 3, none⟩) h2]; exact h6, h7⟩
theorem FlR.more {w : World} {N N' : Nat} {A : Option Addr} {l : List Fl} (h : FlR w N A l) (hb : N ≤ N') : FlR w N' A l := fun i hi => by
  obtain ⟨b, o, h1, h2, h3⟩ := h i hi
  exact ⟨b, o, h1, by omega, h3⟩
structure Ct.Ok (c : Ct) : Prop where
  g : I64x c.gen
  s : I64x c.step
  t : I64x c.status
  k : c.card.Ok
/-- A catalog's cells; its files lie at A. -/
def ctv (c : Ct) (A : Option Addr) (n cap : Nat) : List Value := [.int .i64 c.gen, .int .i64 c.step, .int .i64 c.status, .bool c.ended, .int .i64 c.card.frm, .int .i64 c.card.to_, .int .i64 c.card.budget, .int .i64 c.card.fan, .slice A n cap]
def CtAt (w : World) (b : Nat) (c : Ct) (A : Option Addr) (n cap : Nat) : Prop := Arr w b 37 (ctv c A n cap)
theorem CtAt.below {w w' : World} {b : Nat} {c : Ct} {A : Option Addr} {n cap : Nat} (h : CtAt w b c A n cap) (hb : Below w.heap.size w w') : CtAt w' b c A n cap := Arr.below h hb
theorem CtAt.lt {w : World} {b : Nat} {c : Ct} {A : Option Addr} {n cap : Nat} (h : CtAt w b c A n cap) : b < w.heap.size := Arr.lt h
theorem CtAt.cells {w : World} {b : Nat} {c : Ct} {A : Option Addr} {n cap : Nat} (h : CtAt w b c A n cap) : w.cell? ⟨b, 0, none⟩ = some (.int .i64 c.gen) ∧ w.cell? ⟨b, 1, none⟩ = some (.int .i64 c.step) ∧ w.cell? ⟨b, 2, none⟩ = some (.int .i64 c.status) ∧ w.cell? ⟨b, 3, none⟩ = some (.bool c.ended) ∧ w.cell? ⟨b, 4, none⟩ = some (.int .i64 c.card.frm) ∧ w.cell? ⟨b, 5, none⟩ = some (.int .i64 c.card.to_) ∧ w.cell? ⟨b, 6, none⟩ = some (.int .i64 c.card.budget) ∧ w.cell? ⟨b, 7, none⟩ = some (.int .i64 c.card.fan) ∧ w.cell? ⟨b, 8, none⟩ = some (.slice A n cap) :=
  ⟨Arr.cell h 0, Arr.cell h 1, Arr.cell h 2, Arr.cell h 3, Arr.cell h 4, Arr.cell h 5, Arr.cell h 6, Arr.cell h 7, Arr.cell h 8⟩
section
variable {ops : Array Oper} {rs : List Oper} {o : Oper} {a : Act} {w : World} {Q : Exit → Act → World → Prop}
theorem box_ct (hgd : o.guard = none) (x : Operand) (ho : o.op = .box 37 x) (c : Ct) (A : Option Addr) (n cap : Nat) (hx : a.eval x = .agg (ctv c A n cap).toArray)
    (h : ∀ w1, CtAt w1 w.heap.size c A n cap → Below w.heap.size w w1 → w1.heap.size = w.heap.size + 1 → wpList Try.prog ops Q rs (a.put o.dst (.pointer (some ⟨w.heap.size, 0, none⟩))) w1) : wpList Try.prog ops Q (o :: rs) a w :=
  wpList_plain hgd fun K hK => by
    unfold Oper.wp execOp
    simp only [ho, hx, Instr.box, newVar, newRow, newObj, Value.cells, Sem.run_bind, Sem.run_pure, Result.andThen_ok]
    exact hK _ _ (h _ (Arr.new w _ _) ((Below.refl _ _).alloc (Nat.le_refl _) _) (by simp))
end
/-- Two cards, two files compared, by names of their own. -/
def neqCd (x y : Value) : Sem Value := binOp .neq 29 x y
theorem neqCd_eq (x y : Value) : binOp .neq 29 x y = neqCd x y := rfl
def eqlCd (x y : Value) : Sem Value := binOp .eql 29 x y
theorem eqlCd_eq (x y : Value) : binOp .eql 29 x y = eqlCd x y := rfl
def neqFl (x y : Value) : Sem Value := binOp .neq 40 x y
theorem neqFl_eq (x y : Value) : binOp .neq 40 x y = neqFl x y := rfl
instance cdDec : DecidableEq Cd := fun a b => decidable_of_iff (a.frm = b.frm ∧ a.to_ = b.to_ ∧ a.budget = b.budget ∧ a.fan = b.fan)
  ⟨fun ⟨h1, h2, h3, h4⟩ => Cd.ext' h1 h2 h3 h4, fun e => by rw [e]; exact ⟨rfl, rfl, rfl, rfl⟩⟩
instance flDec : DecidableEq Fl := fun a b => decidable_of_iff (a.name = b.name ∧ a.file = b.file ∧ a.first = b.first ∧ a.blocks = b.blocks)
  ⟨fun ⟨h1, h2, h3, h4⟩ => Fl.ext' h1 h2 h3 h4, fun e => by rw [e]; exact ⟨rfl, rfl, rfl, rfl⟩⟩
theorem four_dec {p q r s : Prop} [Decidable p] [Decidable q] [Decidable r] [Decidable s] [Decidable (p ∧ q ∧ r ∧ s)] : decide (p ∧ q ∧ r ∧ s) = (decide p && (decide q && (decide r && decide s))) := by
  by_cases p <;> by_cases q <;> by_cases r <;> by_cases s <;> simp_all
theorem fields_four {w : World} {d : Nat} {a0 a1 a2 a3 b0 b1 b2 b3 : Int} {f0 f1 f2 f3 : Field} (h0 : f0.type = 3 ∧ f0.offset = 0 ∧ f0.name ≠ "_") (h1 : f1.type = 3 ∧ f1.offset = 1 ∧ f1.name ≠ "_") (h2 : f2.type = 3 ∧ f2.offset = 2 ∧ f2.name ≠ "_") (h3 : f3.type = 3 ∧ f3.offset = 3 ∧ f3.name ≠ "_") :
    (Op.eqFields (d + 1) #[.int .i64 a0, .int .i64 a1, .int .i64 a2, .int .i64 a3] #[.int .i64 b0, .int .i64 b1, .int .i64 b2, .int .i64 b3] [f0, f1, f2, f3]).run Try.prog w = .ok (decide (a0 = b0) && (decide (a1 = b1) && (decide (a2 = b2) && decide (a3 = b3)))) w := by
  have p (k : Nat) (xs : Array Value) (v : Value) (h : xs[k]? = some v) : (part 3 xs k).run Try.prog w = .ok v w := by
    simp [part, isAgg, run_underlying Try.underlying3, h]
  have t (a b : Int) : (Op.equalIn (d + 1) 3 (.int .i64 a) (.int .i64 b)).run Try.prog w = .ok (decide (a = b)) w := run_equalIn_int w d 3 .i64 .i64 a b Try.underlying3
  have st {xs ys : Array Value} {f : Field} {fs : List Field} {a b : Int} {k : Nat} {s : Bool} (hf : f.type = 3 ∧ f.offset = k ∧ f.name ≠ "_") (p1 : xs[k]? = some (.int .i64 a)) (p2 : ys[k]? = some (.int .i64 b)) (ih : (Op.eqFields (d + 1) xs ys fs).run Try.prog w = .ok s w) : (Op.eqFields (d + 1) xs ys (f :: fs)).run Try.prog w = .ok (decide (a = b) && s) w := by
    rw [Op.eqFields, if_pos hf.2.2, hf.1, hf.2.1]
    simp only [Sem.run_bind, p k xs _ p1, p k ys _ p2, t, Result.andThen_ok]
    cases decide (a = b)
    · rfl
    · exact ih
  have z {xs ys : Array Value} : (Op.eqFields (d + 1) xs ys []).run Try.prog w = .ok true w := rfl
  have e := st h3 (xs := #[.int .i64 a0, .int .i64 a1, .int .i64 a2, .int .i64 a3]) (ys := #[.int .i64 b0, .int .i64 b1, .int .i64 b2, .int .i64 b3]) (fs := []) rfl rfl z
  rw [Bool.and_true] at e
  exact st h0 rfl rfl (st h1 rfl rfl (st h2 rfl rfl e))
theorem Try.card_held : Try.prog.stoodInHeld 29 = false := by kernel_rfl
theorem Try.file_held : Try.prog.stoodInHeld 40 = false := by kernel_rfl
theorem Try.card_guard : Try.prog.eqGuardType Try.prog.depth 29 = false := by kernel_rfl
theorem Try.file_guard : Try.prog.eqGuardType Try.prog.depth 40 = false := by kernel_rfl
theorem equal_card (a b : Cd) (w : World) : (Op.equalIn 10000 29 (.agg #[.int .i64 a.frm, .int .i64 a.to_, .int .i64 a.budget, .int .i64 a.fan]) (.agg #[.int .i64 b.frm, .int .i64 b.to_, .int .i64 b.budget, .int .i64 b.fan])).run Try.prog w = .ok (decide (a = b)) w := by
  rw [run_equalIn_struct w 9999 29 _ _ (by unfold Program.fieldsOf; rw [Try.underlying29]) Try.card_held]
  unfold Program.fieldsOf
  rw [Try.underlying29]
  have e : decide (a = b) = (decide (a.frm = b.frm) && (decide (a.to_ = b.to_) && (decide (a.budget = b.budget) && decide (a.fan = b.fan)))) := by
    rw [← four_dec, decide_eq_decide]
    exact ⟨fun e => by rw [e]; exact ⟨rfl, rfl, rfl, rfl⟩, fun ⟨h1, h2, h3, h4⟩ => Cd.ext' h1 h2 h3 h4⟩
  rw [e]
  exact fields_four (d := 9998) ⟨rfl, rfl, by decide⟩ ⟨rfl, rfl, by decide⟩ ⟨rfl, rfl, by decide⟩ ⟨rfl, rfl, by decide⟩
theorem equal_file (a b : Fl) (w : World) : (Op.equalIn 10000 40 (.agg #[.int .i64 a.name, .int .i64 a.file, .int .i64 a.first, .int .i64 a.blocks]) (.agg #[.int .i64 b.name, .int .i64 b.file, .int .i64 b.first, .int .i64 b.blocks])).run Try.prog w = .ok (decide (a = b)) w := by
  rw [run_equalIn_struct w 9999 40 _ _ (by unfold Program.fieldsOf; rw [Try.underlying40]) Try.file_held]
  unfold Program.fieldsOf
  rw [Try.underlying40]
  have e : decide (a = b) = (decide (a.name = b.name) && (decide (a.file = b.file) && (decide (a.first = b.first) && decide (a.blocks = b.blocks)))) := by
    rw [← four_dec, decide_eq_decide]
    exact ⟨fun e => by rw [e]; exact ⟨rfl, rfl, rfl, rfl⟩, fun ⟨h1, h2, h3, h4⟩ => Fl.ext' h1 h2 h3 h4⟩
  rw [e]
  exact fields_four (d := 9998) ⟨rfl, rfl, by decide⟩ ⟨rfl, rfl, by decide⟩ ⟨rfl, rfl, by decide⟩ ⟨rfl, rfl, by decide⟩
theorem neqCd_run (a b : Cd) (w : World) : (neqCd (.agg #[.int .i64 a.frm, .int .i64 a.to_, .int .i64 a.budget, .int .i64 a.fan]) (.agg #[.int .i64 b.frm, .int .i64 b.to_, .int .i64 b.budget, .int .i64 b.fan])).run Try.prog w = .ok (.bool (!decide (a = b))) w := by
  unfold neqCd; rw [run_neq_struct, equal_card]; rfl
theorem eqlCd_run (a b : Cd) (w : World) : (eqlCd (.agg #[.int .i64 a.frm, .int .i64 a.to_, .int .i64 a.budget, .int .i64 a.fan]) (.agg #[.int .i64 b.frm, .int .i64 b.to_, .int .i64 b.budget, .int .i64 b.fan])).run Try.prog w = .ok (.bool (decide (a = b))) w := by
  unfold eqlCd; rw [run_eql_struct, equal_card]; rfl
theorem neqFl_run (a b : Fl) (w : World) : (neqFl (.agg #[.int .i64 a.name, .int .i64 a.file, .int .i64 a.first, .int .i64 a.blocks]) (.agg #[.int .i64 b.name, .int .i64 b.file, .int .i64 b.first, .int .i64 b.blocks])).run Try.prog w = .ok (.bool (!decide (a = b))) w := by
  unfold neqFl; rw [run_neq_struct, equal_file]; rfl
theorem cd_guard (op : BinOp) (x y : Operand) (xs ys : Array Value) (w : World) : (eqGuard op 29 x y (.agg xs) (.agg ys)).run Try.prog w = .ok () w := run_eqGuard_agg w op _ x y xs ys Try.card_guard
theorem fl_guard (op : BinOp) (x y : Operand) (xs ys : Array Value) (w : World) : (eqGuard op 40 x y (.agg xs) (.agg ys)).run Try.prog w = .ok () w := run_eqGuard_agg w op _ x y xs ys Try.file_guard
end Go.Proofs.Ytilmicekpclmbaa
