/-
  The contract of package catalog's lastOnes: the last file of each name, by rising names, in new memory.
  The document's own low (sheafref5), onto nothing.
  The document's own PutCatalog (sheafref5): of a right catalog its leaf; of another one zero.
-/
import Derived.Test.YtilmicekpclmbaaZw
import Derived.Test.YtilmicekpclmbaaZu
import Derived.Test.YtilmicekpclmbaaZd
import Derived.Deep.AppendLies
import Derived.Test.YtilmicekpclmbaaZq
import Derived.Test.YtilmicekpclmbaaZn
import Derived.Laws.CopyOwn
import Derived.Deep.RegionHeldLaw
namespace Go.Proofs.Ytilmicekpclmbaa
set_option linter.unusedVariables false
set_option linter.unusedSimpArgs false
set_option maxRecDepth 100000
open Go.RowKit

def isLast (s : List Fl) (j : Nat) : Bool := decide (j + 1 = s.length) || !decide ((flAt s (j + 1)).name = (flAt s j).name)
def lastsTo (s : List Fl) (i : Nat) : List Fl := ((List.range i).filter (isLast s)).map (flAt s)
theorem lastsTo_succ (s : List Fl) (i : Nat) : lastsTo s (i + 1) = lastsTo s i ++ (if isLast s i then [flAt s i] else []) := by
  unfold lastsTo
  rw [List.range_succ, List.filter_append, List.map_append, List.filter_cons]
  split <;> rfl
theorem isLast_cons (x : Fl) (s : List Fl) (j : Nat) : isLast (x :: s) (j + 1) = isLast s j := by
  unfold isLast
  have e : decide (j + 1 + 1 = (x :: s).length) = decide (j + 1 = s.length) := by rw [decide_eq_decide, List.length_cons]; omega
  rw [e]
  rfl
theorem lastsTo_cons (x : Fl) (s : List Fl) (i : Nat) : lastsTo (x :: s) (i + 1) = (if isLast (x :: s) 0 then [x] else []) ++ lastsTo s i := by
  unfold lastsTo
  rw [List.range_succ_eq_map, List.filter_cons, List.filter_map]
  have e : (isLast (x :: s) ∘ Nat.succ) = isLast s := by funext j; exact isLast_cons x s j
  have e2 : ∀ l : List Nat, (l.map Nat.succ).map (flAt (x :: s)) = l.map (flAt s) := fun l => by rw [List.map_map]; rfl
  rw [e]
  split
  · rw [List.map_cons, e2]; rfl
  · rw [e2]; rfl
theorem lasts_to : ∀ s : List Fl, lasts Fl.name s = lastsTo s s.length
  | [] => rfl
  | [x] => rfl
  | x :: y :: r => by
    have ih := lasts_to (y :: r)
    have e0 : lasts Fl.name (x :: y :: r) = if y.name = x.name then lasts Fl.name (y :: r) else x :: lasts Fl.name (y :: r) := by rw [lasts]
    rw [List.length_cons, lastsTo_cons, ← ih, e0]
    have e : isLast (x :: y :: r) 0 = !decide (y.name = x.name) := by
      unfold isLast
      have : decide (0 + 1 = (x :: y :: r).length) = false := by rw [decide_eq_false_iff_not, List.length_cons, List.length_cons]; omega
      rw [this]; rfl
    rw [e]
    by_cases h : y.name = x.name
    · rw [if_pos h, if_neg (by simp [h])]; rfl
    · rw [if_neg h, if_pos (by simp [h])]; rfl
theorem lastsTo_len (s : List Fl) (i : Nat) : (lastsTo s i).length ≤ i := by
  unfold lastsTo
  rw [List.length_map]
  have := List.length_filter_le (isLast s) (List.range i)
  rw [List.length_range] at this
  exact this
theorem FlKeep.below {A : Option Addr} {g B : Nat} {w0 w w' : World} (h : FlKeep A g w w') (hA : ∀ a, A = some a → B ≤ a.block) (hb : Below B w0 w) (hB : B ≤ w.heap.size) : Below B w0 w' :=
  h.1.below (fun k ⟨a, ha, hk⟩ => by rw [hk]; exact hA a ha) hb hB
theorem OwnF.fk {w w' : World} {base n cap g' : Nat} {A A3 : Option Addr} {l : List Fl} (h : OwnF w base A n cap l) (k : FlKeep A3 g' w w') (hne : ∀ a b, A = some a → A3 = some b → a.block ≠ b.block) : OwnF w' base A n cap l :=
  h.same (fun a ha => k.1.block a.block (h.lt a ha).2 (fun ⟨b, hb, e⟩ => hne a b ha hb e))
theorem OwnI.fk {w w' : World} {base n cap g' : Nat} {A A3 : Option Addr} {l : List Int} (h : OwnI w base A n cap l) (k : FlKeep A3 g' w w') (hne : ∀ a b, A = some a → A3 = some b → a.block ≠ b.block) : OwnI w' base A n cap l :=
  h.same (fun a ha => k.1.block a.block (h.lt a ha).2 (fun ⟨b, hb, e⟩ => hne a b ha hb e))
end Go.Proofs.Ytilmicekpclmbaa
namespace Go.Proofs.Ytilmicekpclmbaa
set_option linter.unusedVariables false
set_option linter.unusedSimpArgs false
open Go.RowKit

/-- An append onto nothing. -/
theorem app_nil (w : World) {ops : Array Oper} {rs : List Oper} {o : Oper} {a : Act} {Q : Exit → Act → World → Prop} (hgd : o.guard = none)
    (s x : Operand) (ho : o.op = .call { callee := .builtin .append, args := #[s, x], argTypes := #[30, 30] })
    (base : Nat) (hs : a.eval s = .slice none 0 0)
    (B : Nat) (A : Option Addr) (m c : Nat) (xs : List Int) (hm : xs.length = m) (hx : a.eval x = .slice A m c) (hr : RdB w B A xs) (h0 : 0 < m)
    (hl : m ≤ 1000000) (hbase : base ≤ w.heap.size)
    (h : ∀ g' cap' w', Own w' base g' cap' xs → Below w.heap.size w w' → wpList Try.prog ops Q rs (a.put o.dst (.slice (some ⟨g', 0, none⟩) m cap')) w') :
    wpList Try.prog ops Q (o :: rs) a w := by
  subst hm
  obtain ⟨i0, hi, hz0, hz1, hz2⟩ := info_parts Try.info_byte
  obtain ⟨b, o', rfl, _, _, _⟩ := hr 0 h0
  refine wpList_append_own w hgd s x 30 ho base 5 i0 (.int .u8 0) 1 1 Try.underlying30 hi hz0 hz1 hz2 rfl (by decide) (.slice none 0 0) 0 [] hs ⟨rfl, Or.inl ⟨rfl, rfl⟩⟩ ⟨b, o', none⟩ xs.length c (vals xs) hx (by rw [vals_length, Nat.mul_one]) hr.news (vals_one xs) (by unfold maxLen; omega) (by omega) hbase ?_
  intro v' w' h1 h2 h3
  have hpos : 0 < 0 + xs.length := by omega
  obtain ⟨g', cap', hv, _, _⟩ := h1.form hpos
  subst hv
  rw [List.nil_append, Nat.zero_add] at h1
  have := h g' cap' w' ⟨h1, fun k hk => by obtain ⟨_, _, _, _, _, hu⟩ := hr k hk; exact hu⟩ (Below.grown (Below.refl _ _) h2 (Nat.le_refl _) (fun k hk => by cases hk))
  rw [Nat.zero_add]
  exact this
/-- An append onto one's own row, and where the row lies behind it. -/
theorem app_at (w : World) {ops : Array Oper} {rs : List Oper} {o : Oper} {a : Act} {Q : Exit → Act → World → Prop} (hgd : o.guard = none)
    (s x : Operand) (ho : o.op = .call { callee := .builtin .append, args := #[s, x], argTypes := #[30, 30] })
    (base g cap k : Nat) (ys : List Int) (hk : ys.length = k) (hs : a.eval s = .slice (some ⟨g, 0, none⟩) k cap) (hown : Own w base g cap ys)
    (B : Nat) (A : Option Addr) (m c : Nat) (xs : List Int) (hm : xs.length = m) (hx : a.eval x = .slice A m c) (hr : RdB w B A xs) (h0 : 0 < m)
    (hl : k + m ≤ 1000000) (hbase : base ≤ w.heap.size)
    (h : ∀ g' cap' w', Own w' base g' cap' (ys ++ xs) → Keep (· = g) w w' → (g' = g ∨ w.heap.size ≤ g') → wpList Try.prog ops Q rs (a.put o.dst (.slice (some ⟨g', 0, none⟩) (k + m) cap')) w') :
    wpList Try.prog ops Q (o :: rs) a w := by
  subst hk hm
  obtain ⟨i0, hi, hz0, hz1, hz2⟩ := info_parts Try.info_byte
  have hU : ∀ k, k < (ys ++ xs).length → U8 ((ys ++ xs).getD k 0) := fun k hk => by
    rw [getD_append]
    rw [List.length_append] at hk
    split
    · exact hown.2 k (by assumption)
    · obtain ⟨_, _, _, _, _, hu⟩ := hr (k - ys.length) (by omega)
      exact hu
  obtain ⟨b, o', rfl, _, _, _⟩ := hr 0 h0
  refine wpList_append_lies w hgd s x 30 ho base 5 i0 (.int .u8 0) 1 1 Try.underlying30 hi hz0 hz1 hz2 rfl (by decide) _ ys.length (vals ys) hs hown.1 ⟨b, o', none⟩ xs.length c (vals xs) hx (by rw [vals_length, Nat.mul_one]) hr.news (vals_one xs) h0 (by unfold maxLen; omega) (by omega) hbase w.heap.size rfl ?_
  intro g' cap' w' h1 h2 h3 _
  rw [vals_append, ← List.length_append] at h1
  have := h g' cap' w' ⟨h1, hU⟩ ⟨h2.os, h2.tape, h2.output, h2.size, fun q hq hn => h2.block q hq (fun e => hn (by injection e))⟩ (by
    rcases h3 with e | e
    · have e : some g = some g' := e
      injection e with e
      exact Or.inl e.symm
    · exact Or.inr (by omega))
  exact this
/-- What low leaves, and what it leaves alone. -/
def LowK (base g k m : Nat) (ys : List Int) (w : World) (e : Ending) (w' : World) : Prop :=
  ∃ g' c, e = .returned (.slice (some ⟨g', 0, none⟩) (k + m) c) ∧ Own w' base g' c ys ∧ Keep (· = g) w w' ∧ (g' = g ∨ w.heap.size ≤ g')
end Go.Proofs.Ytilmicekpclmbaa
namespace Go.Proofs.Ytilmicekpclmbaa
set_option linter.unusedVariables false
set_option linter.unusedSimpArgs false
open Go.RowKit

theorem by4_low (n : Int) : lowL n 4 = by4 n := by
  show [n / 2 ^ (8 * 0) % 256, n / 2 ^ (8 * 1) % 256, n / 2 ^ (8 * 2) % 256, n / 2 ^ (8 * 3) % 256] = _
  have e0 : n / 2 ^ (8 * 0) = n := by simp
  have e1 : (2 : Int) ^ (8 * 1) = 256 := by decide
  have e2 : (2 : Int) ^ (8 * 2) = 65536 := by decide
  have e3 : (2 : Int) ^ (8 * 3) = 16777216 := by decide
  rw [e0, e1, e2, e3]
  rfl
theorem Keep.cellK {F : Nat → Prop} {w w' : World} (h : Keep F w w') {a : Addr} (hl : a.block < w.heap.size) (hn : ¬ F a.block) : w'.cell? a = w.cell? a :=
  World.cell?_of_block (h.block a.block hl hn)
def PutC (w : World) (c : Ct) (e : Ending) (w' : World) : Prop := e = .returned (.agg (lv c.putL).toArray) ∧ Below w.heap.size w w'
end Go.Proofs.Ytilmicekpclmbaa
