/-
  A list of asks as an argument's reading has it.
-/
import Derived.Test.YtaehgpieichjkaaDAsk
import Derived.Test.YtaehgpieichjkaaUWf
import Derived.Deep.Fields
import Derived.Deep.Slices
import Derived.OpenShut
namespace Go.Proofs.Ytaehgpieichjkaa
set_option linter.unusedVariables false
set_option linter.unusedSimpArgs false
open Go.RowKit Go.ChangeShapes Go.WideShapes Go.Deep

section
variable {H : Type} {enc : TypeId × Value → H} {P : Program} {w : World} {base : Nat} {spare : Nat → Bool} {held : Bool}
/-- A slice of structs whose fields are one cell each. -/
theorem open_slice_fields {t e : TypeId} {fs : Array Field} {fuel : Nat} {A : Option Addr} {len cap : Nat} {x : DataW H × List MemPlace} (ht : P.underlying t = some (.slice e)) (hs : P.underlying e = some (.struct fs))
    (hone : ∀ (i : Nat) (f : Field), fs[i]? = some f → f.offset = i ∧ P.cellsOf f.type = 1) (hC : P.cellsOf e = fs.size) (hpos : 0 < fs.size) (h : DataW.trod enc P w base spare held fuel t [.slice A len cap] = some x) :
    len ≤ cap ∧ cap ≤ maxLen ∧ (A = none → len = 0 ∧ cap = 0) ∧ ∀ k, k < len → ∃ b o n, A = some ⟨b, o, none⟩ ∧ ∀ (i : Nat) (f : Field), fs[i]? = some f → ∃ v y, w.cell? ⟨b, o + k * fs.size + i, none⟩ = some v ∧ DataW.trod enc P w base spare held n f.type [v] = some y := by
  rcases open_slice ht h with ⟨h0, _⟩ | ⟨a, len', cap', m, n, D, Pl, h0, hb, hl, hm, hmm, rfl, hx⟩
  · injection h0 with h0 _
    injection h0 with h0 h1 h2
    subst h0 h1 h2
    exact ⟨Nat.le_refl _, Nat.zero_le _, fun _ => ⟨rfl, rfl⟩, fun k hk => absurd hk (Nat.not_lt_zero _)⟩
  · injection h0 with h0 _
    injection h0 with h0 h1 h2
    subst h0 h1 h2
    refine ⟨hl, hm, fun e => (by cases e), fun k hk => ?_⟩
    have hkm : k < m := by
      rw [hmm]
      split <;> omega
    obtain ⟨cs', h1, h2⟩ := hx k hkm
    obtain ⟨_, hlen, hcell⟩ := World.cells?_some h1
    rw [hC] at hlen hcell
    obtain ⟨xs, n', _, _, _, hxl, hf⟩ := DataW.trod_struct hs h2
    obtain ⟨b, o, spot⟩ := a
    have hspot : spot = none := by
      obtain ⟨cs0, g1, g2⟩ := hx 0 (by omega)
      obtain ⟨_, hlen0, hcell0⟩ := World.cells?_some g1
      rw [hC] at hlen0 hcell0
      have hc0 := hcell0 0 hpos
      rw [List.getElem?_eq_getElem (by omega)] at hc0
      simpa [Addr.add] using World.cell?_spot hc0
    subst hspot
    have ad : ∀ j q : Nat, ((⟨b, o, none⟩ : Addr).add j).add q = ⟨b, o + j + q, none⟩ := fun j q => by
      have e0 : ∀ (o' j' : Nat), (⟨b, o', none⟩ : Addr).add j' = ⟨b, o' + j', none⟩ := fun o' j' => by
        unfold Addr.add
        by_cases h0 : j' = 0
        · subst h0; simp
        · simp [h0]
      rw [e0, e0]
    refine ⟨b, o, n', rfl, fun i f hi => ?_⟩
    have hlt : i < fs.size := (Array.getElem?_eq_some_iff.1 hi).1
    obtain ⟨ho, hc1⟩ := hone i f hi
    have g := hf i f hi
    rw [ho, hc1] at g
    have hci := hcell i hlt
    rw [ad] at hci
    have hli : i < cs'.length := by omega
    rw [List.getElem?_eq_getElem hli] at hci
    have hdt : (cs'.drop i).take 1 = [cs'[i]] := by
      rw [List.drop_eq_getElem_cons hli]
      rfl
    rw [hdt, List.getElem?_eq_getElem (by omega)] at g
    exact ⟨_, _, hci, g⟩
end
/-- A list of asks that came in. -/
theorem ask_of {H : Type} {enc : TypeId × Value → H} {w : World} {fuel : Nat} {A : Option Addr} {len cap : Nat} {x : DataW H × List MemPlace} (h : DataW.trod enc Try.prog w 0 (fun _ => true) true fuel 35 [.slice A len cap] = some x) :
    ∃ f, AskR w A len f ∧ len ≤ cap ∧ cap ≤ maxLen := by
  obtain ⟨h1, h2, h3, h4⟩ := open_slice_fields Try.underlying35 Try.underlying40 (hone_of (by kernel_rfl)) (by kernel_rfl) (by decide) h
  have key : ∀ k, k < len → ∃ d : AskD, ∃ b o, A = some ⟨b, o, none⟩ ∧ b < w.heap.size ∧
    w.cell? ⟨b, o + k * 8, none⟩ = some (.int .i64 d.kind) ∧ w.cell? ⟨b, o + k * 8 + 1, none⟩ = some (.int .i64 d.i) ∧ w.cell? ⟨b, o + k * 8 + 2, none⟩ = some (.int .i64 d.a) ∧ w.cell? ⟨b, o + k * 8 + 3, none⟩ = some (.int .i64 d.n) ∧
    w.cell? ⟨b, o + k * 8 + 4, none⟩ = some (.int .u8 d.x) ∧ w.cell? ⟨b, o + k * 8 + 5, none⟩ = some (.int .u32 d.by_) ∧ w.cell? ⟨b, o + k * 8 + 6, none⟩ = some (.slice d.hA d.hn d.hc) ∧ w.cell? ⟨b, o + k * 8 + 7, none⟩ = some (.bool d.short) ∧
    (I64 d.kind ∧ I64 d.i ∧ I64 d.a ∧ I64 d.n ∧ U8 d.x ∧ U32 d.by_) ∧
    (RdB w w.heap.size d.hA d.how ∧ d.how.length = d.hn ∧ d.hn ≤ maxLen) := fun k hk => by
    obtain ⟨b, o, n, e1, hf⟩ := h4 k hk
    obtain ⟨v0, y0, c0, t0⟩ := hf 0 _ rfl
    obtain ⟨v1, y1, c1, t1⟩ := hf 1 _ rfl
    obtain ⟨v2, y2, c2, t2⟩ := hf 2 _ rfl
    obtain ⟨v3, y3, c3, t3⟩ := hf 3 _ rfl
    obtain ⟨v4, y4, c4, t4⟩ := hf 4 _ rfl
    obtain ⟨v5, y5, c5, t5⟩ := hf 5 _ rfl
    obtain ⟨v6, y6, c6, t6⟩ := hf 6 _ rfl
    obtain ⟨v7, y7, c7, t7⟩ := hf 7 _ rfl
    obtain ⟨z0, g0, _, q0⟩ := DataW.trod_int Try.underlying3 t0
    obtain ⟨z1, g1, _, q1⟩ := DataW.trod_int Try.underlying3 t1
    obtain ⟨z2, g2, _, q2⟩ := DataW.trod_int Try.underlying3 t2
    obtain ⟨z3, g3, _, q3⟩ := DataW.trod_int Try.underlying3 t3
    obtain ⟨z4, g4, _, q4⟩ := DataW.trod_int Try.underlying5 t4
    obtain ⟨z5, g5, _, q5⟩ := DataW.trod_int Try.underlying38 t5
    obtain ⟨z7, g7, _⟩ := DataW.trod_bool Try.underlying4 t7
    injection g0 with g0; injection g1 with g1; injection g2 with g2; injection g3 with g3; injection g4 with g4; injection g5 with g5; injection g7 with g7
    subst g0 g1 g2 g3 g4 g5 g7
    have how : ∃ A' n' c' how, v6 = .slice A' n' c' ∧ RdB w w.heap.size A' how ∧ how.length = n' ∧ n' ≤ maxLen := by
      rcases open_ints Try.underlying26 Try.underlying5 (by kernel_rfl) t6 with ⟨hcs, _⟩ | ⟨a, l, c, zs, hcs, _, hl, hm, hz, _, hcell, hwz⟩
      · injection hcs with hcs
        exact ⟨none, 0, 0, [], hcs, fun k hk => absurd hk (by simp), rfl, Nat.zero_le _⟩
      · injection hcs with hcs
        obtain ⟨r1, r2, r3, r4, _⟩ := rb_of (A := some a) (len := l) (cap := c) (zs := zs) (Or.inr ⟨a, rfl, hl, hm, by simpa using hz, hcell, hwz⟩)
        exact ⟨some a, l, c, zs.take l, hcs, r2, r1, Nat.le_trans r3 r4⟩
    obtain ⟨A', n', c', how, rfl, r1, r2, r3⟩ := how
    have u32 : U32 z5 := by
      obtain ⟨X, rfl⟩ := wrd_of q5
      exact u32_bd X
    exact ⟨⟨z0, z1, z2, z3, z4, z5, A', n', c', how, z7⟩, b, o, e1, World.block_lt_of_cell? _ _ c0, c0, c1, c2, c3, c4, c5, c6, c7, ⟨i64_of q0, i64_of q1, i64_of q2, i64_of q3, u8_of q4, u32⟩, r1, r2, r3⟩
  haveI : Inhabited AskD := ⟨⟨0, 0, 0, 0, 0, 0, none, 0, 0, [], false⟩⟩
  obtain ⟨f, hf⟩ := choose_lt (n := len) key
  exact ⟨f, fun k hk => hf k hk, h1, h2⟩
end Go.Proofs.Ytaehgpieichjkaa
