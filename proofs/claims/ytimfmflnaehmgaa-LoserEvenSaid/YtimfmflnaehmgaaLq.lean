/-
  Sources of ints in memory, how often each was asked; the contracts of answer and ask.
-/
import Derived.Test.YtimfmflnaehmgaaLx
namespace Go.Proofs.Ytimfmflnaehmgaa
set_option linter.unusedVariables false
set_option linter.unusedSimpArgs false
set_option maxRecDepth 100000
open Go.RowKit

/-- Ints that can be read. -/
def IRz (w : World) (A : Option Addr) (xs : List Int) : Prop := ∀ (k : Nat) (x : Int), xs[k]? = some x → ∃ b o, A = some ⟨b, o, none⟩ ∧ b < w.heap.size ∧ w.cell? ⟨b, o + k, none⟩ = some (.int .i64 x)
theorem IRz.same {w w' : World} {A : Option Addr} {xs : List Int} (h : IRz w A xs) (k : ∀ a, xs ≠ [] ∧ A = some a → w'.heap[a.block]? = w.heap[a.block]?) (hs : w.heap.size ≤ w'.heap.size) : IRz w' A xs := fun q i hi => by
  obtain ⟨g, o, h1, h2, h3⟩ := h q i hi
  exact ⟨g, o, h1, Nat.lt_of_lt_of_le h2 hs, by rw [World.cell?_of_block (w := w) (a := ⟨g, o + q, none⟩) (show w'.heap[g]? = w.heap[g]? from k ⟨g, o, none⟩ ⟨(fun e => by rw [e] at hi; simp at hi), h1⟩)]; exact h3⟩
/-- A source over the list l: its variables' blocks, the place where it counts. -/
structure Sr where
  ba : Nat
  bt : Nat
  bl : Nat
  pg : Nat
  po : Nat
  A : Option Addr
  c : Nat
  l : List Int
/-- Where its list lies, if there is one. -/
def Sr.On (s : Sr) (a : Addr) : Prop := s.l ≠ [] ∧ s.A = some a
def Sr.v (s : Sr) : Value := .func (.func 23) #[] #[.pointer (some ⟨s.ba, 0, none⟩), .pointer (some ⟨s.bt, 0, none⟩), .pointer (some ⟨s.bl, 0, none⟩)]
structure SrAt (w : World) (s : Sr) (p : Nat) : Prop where
  ca : w.cell? ⟨s.ba, 0, none⟩ = some (.pointer (some ⟨s.pg, s.po, none⟩))
  ct : w.cell? ⟨s.bt, 0, none⟩ = some (.int .i64 (p : Int))
  ft : w.frozen? ⟨s.bt, 0, none⟩ = false
  cl : w.cell? ⟨s.bl, 0, none⟩ = some (.slice s.A s.l.length s.c)
  rd : IRz w s.A s.l
  lt : s.ba < w.heap.size ∧ s.bt < w.heap.size ∧ s.bl < w.heap.size ∧ s.pg < w.heap.size
  hp : p ≤ s.l.length
  hl : s.l.length ≤ 281474976710656
theorem SrAt.same {w w' : World} {s : Sr} {p : Nat} (h : SrAt w s p) (k1 : w'.heap[s.ba]? = w.heap[s.ba]?) (k2 : w'.heap[s.bt]? = w.heap[s.bt]?) (k3 : w'.heap[s.bl]? = w.heap[s.bl]?) (k4 : ∀ a, s.On a → w'.heap[a.block]? = w.heap[a.block]?) (hs : w.heap.size ≤ w'.heap.size) : SrAt w' s p :=
  ⟨by rw [World.cell?_of_block (w := w) (a := ⟨s.ba, 0, none⟩) k1]; exact h.ca, by rw [World.cell?_of_block (w := w) (a := ⟨s.bt, 0, none⟩) k2]; exact h.ct, by rw [World.frozen?_of_block (w := w) (a := ⟨s.bt, 0, none⟩) k2]; exact h.ft, by rw [World.cell?_of_block (w := w) (a := ⟨s.bl, 0, none⟩) k3]; exact h.cl, h.rd.same k4 hs, ⟨by have := h.lt; omega, by have := h.lt; omega, by have := h.lt; omega, by have := h.lt; omega⟩, h.hp, h.hl⟩
/-- How the sources lie to each other: below block B, the variables of each its own. -/
structure SrsOk (B : Nat) (ss : List Sr) : Prop where
  low : ∀ (i : Nat) (s : Sr), ss[i]? = some s → s.ba < B ∧ s.bt < B ∧ s.bl < B ∧ s.pg < B ∧ ∀ a, s.On a → a.block < B
  one : ∀ (i j : Nat) (s s' : Sr), ss[i]? = some s → ss[j]? = some s' → i ≠ j → s.bt ≠ s'.bt
  at_ : ∀ (i j : Nat) (s s' : Sr), ss[i]? = some s → ss[j]? = some s' → s.bt ≠ s'.ba ∧ s.bt ≠ s'.bl ∧ s.bt ≠ s'.pg ∧ ∀ a, s'.On a → a.block ≠ s.bt
  ask : ∀ (i j : Nat) (s s' : Sr), ss[i]? = some s → ss[j]? = some s' → s.pg ≠ s'.ba ∧ s.pg ≠ s'.bl ∧ ∀ a, s'.On a → a.block ≠ s.pg
/-- What the sources have given (ps), and how often each counter was raised (q). -/
structure Srs (w : World) (N : Nat) (ss : List Sr) (ps : List Nat) (q : Nat → Nat → Int) : Prop where
  len : ps.length = ss.length
  each : ∀ (i : Nat) (s : Sr) (p : Nat), ss[i]? = some s → ps[i]? = some p → SrAt w s p
  cnt : ∀ (i : Nat) (s : Sr), ss[i]? = some s → w.cell? ⟨s.pg, s.po, none⟩ = some (.int .i64 (q s.pg s.po)) ∧ w.frozen? ⟨s.pg, s.po, none⟩ = false ∧ 0 ≤ q s.pg s.po ∧ q s.pg s.po ≤ N
/-- The blocks that the sources write. -/
def Wr (ss : List Sr) (k : Nat) : Prop := ∃ (i : Nat) (s : Sr), ss[i]? = some s ∧ (k = s.bt ∨ k = s.pg)
theorem SrsOk.wr {B : Nat} {ss : List Sr} (h : SrsOk B ss) (k : Nat) (hk : Wr ss k) : k < B := by
  obtain ⟨i, s, hs, e⟩ := hk
  have := h.low i s hs
  rcases e with rfl | rfl <;> omega
theorem Srs.same {w w' : World} {B N : Nat} {ss : List Sr} {ps : List Nat} {q : Nat → Nat → Int} (h : Srs w N ss ps q) (o : SrsOk B ss) (k : ∀ b, b < B → w'.heap[b]? = w.heap[b]?) (hs : w.heap.size ≤ w'.heap.size) : Srs w' N ss ps q :=
  ⟨h.len, fun i s p hi hp => by
    have l := o.low i s hi
    exact (h.each i s p hi hp).same (k _ l.1) (k _ l.2.1) (k _ l.2.2.1) (fun a ha => k _ (l.2.2.2.2 a ha)) hs, fun i s hi => by
    have l := o.low i s hi
    have c := h.cnt i s hi
    exact ⟨by rw [World.cell?_of_block (w := w) (a := ⟨s.pg, s.po, none⟩) (k _ l.2.2.2.1)]; exact c.1, by rw [World.frozen?_of_block (w := w) (a := ⟨s.pg, s.po, none⟩) (k _ l.2.2.2.1)]; exact c.2.1, c.2.2⟩⟩
theorem Srs.below {w w' : World} {B N : Nat} {ss : List Sr} {ps : List Nat} {q : Nat → Nat → Int} (h : Srs w N ss ps q) (o : SrsOk B ss) (hB : B ≤ w.heap.size) (b : Below w.heap.size w w') : Srs w' N ss ps q := h.same o (fun k hk => b.block k (by omega)) b.size
/-- A counter behind one more. -/
def up (q : Nat → Nat → Int) (g o : Nat) : Nat → Nat → Int := fun g' o' => if g' = g ∧ o' = o then q g' o' + 1 else q g' o'
theorem source_any (s : Sr) (p : Nat) (q : Int) (w : World) (h : SrAt w s p) (cp : w.cell? ⟨s.pg, s.po, none⟩ = some (.int .i64 q)) (fp : w.frozen? ⟨s.pg, s.po, none⟩ = false) (hq : 0 ≤ q ∧ q ≤ 1000000000) (n1 : s.bt ≠ s.ba ∧ s.bt ≠ s.bl ∧ s.bt ≠ s.pg ∧ ∀ a, s.On a → a.block ≠ s.bt) (n2 : s.pg ≠ s.ba ∧ s.pg ≠ s.bl ∧ ∀ a, s.On a → a.block ≠ s.pg) :
    Calls Try.prog 23 #[.pointer (some ⟨s.ba, 0, none⟩), .pointer (some ⟨s.bt, 0, none⟩), .pointer (some ⟨s.bl, 0, none⟩)] w fun e w' =>
      (p = s.l.length ∧ e = .returned (.tuple #[.int .i64 0, .bool false]) ∧ w' = w.setCell ⟨s.pg, s.po, none⟩ (.int .i64 (q + 1))) ∨
      (∃ x, s.l[p]? = some x ∧ e = .returned (.tuple #[.int .i64 x, .bool true]) ∧ w' = (w.setCell ⟨s.pg, s.po, none⟩ (.int .i64 (q + 1))).setCell ⟨s.bt, 0, none⟩ (.int .i64 ((p + 1 : Nat) : Int))) := by
  obtain ⟨ca, ct, ft, cl, rd, _, hp, hl⟩ := h
  obtain ⟨m, hm⟩ : ∃ m, s.l.length = m := ⟨_, rfl⟩
  rw [hm] at cl hp hl
  have e1 : IntKind.i64.wrap (q + 1) = q + 1 := IntWalk.i64_in _ (by omega)
  obtain ⟨w1, hw1⟩ : ∃ W, W = w.setCell ⟨s.pg, s.po, none⟩ (.int .i64 (q + 1)) := ⟨_, rfl⟩
  have b1 : ∀ k, k ≠ s.pg → w1.heap[k]? = w.heap[k]? := fun k hk => by rw [hw1]; exact heap_setCell_other w _ k _ hk
  have ct1 : w1.cell? ⟨s.bt, 0, none⟩ = some (.int .i64 (p : Int)) := by rw [World.cell?_of_block (w := w) (a := ⟨s.bt, 0, none⟩) (b1 _ n1.2.2.1)]; exact ct
  have ft1 : w1.frozen? ⟨s.bt, 0, none⟩ = false := by rw [World.frozen?_of_block (w := w) (a := ⟨s.bt, 0, none⟩) (b1 _ n1.2.2.1)]; exact ft
  have cl1 : w1.cell? ⟨s.bl, 0, none⟩ = some (.slice s.A m s.c) := by rw [World.cell?_of_block (w := w) (a := ⟨s.bl, 0, none⟩) (b1 _ (Ne.symm n2.2.1))]; exact cl
  rw [← hw1]
  by_cases hlt : p < m
  · obtain ⟨x, hx⟩ : ∃ x, s.l[p]? = some x := ⟨_, List.getElem?_eq_getElem (by omega)⟩
    obtain ⟨g, o, hA, hg, hc⟩ := rd p x hx
    have hne : s.l ≠ [] := fun e => by rw [e] at hx; simp at hx
    rw [hA] at cl1
    obtain ⟨w2, hw2⟩ : ∃ W, W = w1.setCell ⟨s.bt, 0, none⟩ (.int .i64 ((p : Int) + 1)) := ⟨_, rfl⟩
    have b2 : ∀ k, k ≠ s.bt → w2.heap[k]? = w1.heap[k]? := fun k hk => by rw [hw2]; exact heap_setCell_other w1 _ k _ hk
    have ct2 : w2.cell? ⟨s.bt, 0, none⟩ = some (.int .i64 ((p : Int) + 1)) := by rw [hw2]; exact World.cell?_setCell_same _ _ _ ct1
    have cl2 : w2.cell? ⟨s.bl, 0, none⟩ = some (.slice (some ⟨g, o, none⟩) m s.c) := by rw [World.cell?_of_block (w := w1) (a := ⟨s.bl, 0, none⟩) (b2 _ (Ne.symm n1.2.1))]; exact cl1
    have cg2 : w2.cell? ⟨g, o + p, none⟩ = some (.int .i64 x) := by rw [World.cell?_of_block (w := w1) (a := ⟨g, o + p, none⟩) (b2 g (n1.2.2.2 _ ⟨hne, hA⟩)), World.cell?_of_block (w := w) (a := ⟨g, o + p, none⟩) (b1 g (n2.2.2 _ ⟨hne, hA⟩))]; exact hc
    have d1 : decide ((m : Int) ≤ (p : Int)) = false := by rw [decide_eq_false_iff_not]; omega
    have d2 : decide (m ≤ p) = false := by rw [decide_eq_false_iff_not]; omega
    have e2 : IntKind.i64.wrap ((p : Int) + 1) = (p : Int) + 1 := IntWalk.i64_in _ (by omega)
    have e3 : IntKind.i64.wrap ((p : Int) + 1 - 1) = (p : Int) := by rw [IntWalk.i64_in _ (by omega)]; omega
    have i1 : (p : Int) < (m : Int) := by omega
    have P : Hid (w2 = w1.setCell ⟨s.bt, 0, none⟩ (.int .i64 ((p + 1 : Nat) : Int))) := Lib.hid (by rw [hw2]; rfl)
    have HX := Lib.hid hx
    have HW1 := Lib.hid hw1; have HW2 := Lib.hid hw2
    clear n1 n2 b1 b2 rd hm hx hA hne cl hw1 hw2
    go_enter Try.func23, Try.ntmps23
    go_upto_region 1 with fail
    go_upto_region 2 with fail
    rw [← HW1.out]
    go_upto_region 5 with fail
    rw [← HW2.out]
    go_wp2_with fail
    go_ret2
    exact Or.inr ⟨x, HX.out, rfl, P.out⟩
  · obtain rfl : p = m := by omega
    have d1 : decide ((p : Int) ≤ (p : Int)) = true := by rw [decide_eq_true_eq]; omega
    have HM := Lib.hid hm
    have HW1 := Lib.hid hw1
    clear n1 n2 b1 rd hm cl hw1
    go_enter Try.func23, Try.ntmps23
    go_upto_region 1 with fail
    go_upto_region 2 with fail
    rw [← HW1.out]
    go_wp2_with fail
    go_ret2
    exact Or.inl ⟨HM.out.symm, rfl, rfl⟩
/-- What source i still has. -/
def left_ (s : Sr) (p : Nat) : List Int := s.l.drop p
theorem Srs.call {B N i : Nat} {ss : List Sr} {ps : List Nat} {q : Nat → Nat → Int} {s : Sr} {p : Nat} {w : World} (h : Srs w N ss ps q) (o : SrsOk B ss) (hs : ss[i]? = some s) (hp : ps[i]? = some p) (hN : N ≤ 1000000000) :
    Calls Try.prog 23 #[.pointer (some ⟨s.ba, 0, none⟩), .pointer (some ⟨s.bt, 0, none⟩), .pointer (some ⟨s.bl, 0, none⟩)] w fun e w' =>
      e = .returned (.tuple #[.int .i64 ((left_ s p).headD 0), .bool (!(left_ s p).isEmpty)]) ∧ Srs w' (N + 1) ss (ps.set i (min (p + 1) s.l.length)) (up q s.pg s.po) ∧ Keep (Wr ss) w w' := by
  have hc := h.cnt i s hs
  have ha := h.each i s p hs hp
  have hpl : i < ps.length := by
    rcases Nat.lt_or_ge i ps.length with e | e
    · exact e
    · rw [List.getElem?_eq_none e] at hp; cases hp
  have n1 := o.at_ i i s s hs hs
  have n2 := o.ask i i s s hs hs
  refine (source_any s p (q s.pg s.po) w ha hc.1 hc.2.1 ⟨hc.2.2.1, by omega⟩ n1 n2).mono ?_
  rintro e w' hw
  -- the world behind, cell by cell
  have key : ∃ p', p' = min (p + 1) s.l.length ∧ w'.heap.size = w.heap.size ∧ w'.os = w.os ∧ w'.tape = w.tape ∧ w'.output = w.output ∧ (∀ k, k ≠ s.bt → k ≠ s.pg → w'.heap[k]? = w.heap[k]?) ∧ w'.cell? ⟨s.bt, 0, none⟩ = some (.int .i64 (p' : Int)) ∧ w'.frozen? ⟨s.bt, 0, none⟩ = false ∧ (∀ o', o' ≠ s.po → w'.cell? ⟨s.pg, o', none⟩ = w.cell? ⟨s.pg, o', none⟩) ∧ w'.cell? ⟨s.pg, s.po, none⟩ = some (.int .i64 (q s.pg s.po + 1)) ∧ (∀ o', w'.frozen? ⟨s.pg, o', none⟩ = w.frozen? ⟨s.pg, o', none⟩) ∧ e = .returned (.tuple #[.int .i64 ((left_ s p).headD 0), .bool (!(left_ s p).isEmpty)]) := by
    have c0 := World.cell?_setCell_same w ⟨s.pg, s.po, none⟩ (.int .i64 (q s.pg s.po + 1)) hc.1
    have b1 : ∀ k, k ≠ s.pg → (w.setCell ⟨s.pg, s.po, none⟩ (.int .i64 (q s.pg s.po + 1))).heap[k]? = w.heap[k]? := fun k hk => heap_setCell_other w _ k _ hk
    have f1 : ∀ a, (w.setCell ⟨s.pg, s.po, none⟩ (.int .i64 (q s.pg s.po + 1))).frozen? a = w.frozen? a := fun a => by simp
    have c1 : ∀ o', o' ≠ s.po → (w.setCell ⟨s.pg, s.po, none⟩ (.int .i64 (q s.pg s.po + 1))).cell? ⟨s.pg, o', none⟩ = w.cell? ⟨s.pg, o', none⟩ := fun o' ho => World.cell?_setCell_other _ _ _ _ (fun e => ho (by injection e with q1 q2 q3; exact q2.symm))
    rcases hw with ⟨e1, e2, rfl⟩ | ⟨x, hx, e2, rfl⟩
    · have hl : left_ s p = [] := by unfold left_; rw [e1]; exact List.drop_length
      refine ⟨p, by omega, by simp [World.setCell], rfl, rfl, rfl, fun k _ hk => b1 k hk, ?_, ?_, c1, c0, fun o' => f1 _, by rw [hl]; exact e2⟩
      · rw [World.cell?_of_block (w := w) (a := ⟨s.bt, 0, none⟩) (b1 _ n1.2.2.1)]; exact ha.ct
      · rw [f1]; exact ha.ft
    · have hpx := (List.getElem?_eq_some_iff.1 hx).1
      have hl : left_ s p = x :: s.l.drop (p + 1) := by
        unfold left_
        rw [List.drop_eq_getElem_cons hpx]
        congr 1
        rw [List.getElem?_eq_getElem hpx] at hx
        injection hx
      have b2 : ∀ k, k ≠ s.bt → ((w.setCell ⟨s.pg, s.po, none⟩ (.int .i64 (q s.pg s.po + 1))).setCell ⟨s.bt, 0, none⟩ (.int .i64 ((p + 1 : Nat) : Int))).heap[k]? = (w.setCell ⟨s.pg, s.po, none⟩ (.int .i64 (q s.pg s.po + 1))).heap[k]? := fun k hk => heap_setCell_other _ _ k _ hk
      have n : s.pg ≠ s.bt := Ne.symm n1.2.2.1
      refine ⟨p + 1, by omega, by simp [World.setCell], rfl, rfl, rfl, fun k hk1 hk2 => (b2 k hk1).trans (b1 k hk2), ?_, by rw [World.frozen?_setCell, f1]; exact ha.ft, fun o' ho => ?_, ?_, fun o' => by rw [World.frozen?_setCell, f1], by rw [hl]; exact e2⟩
      · refine World.cell?_setCell_same _ _ _ (?_ : _ = some (.int .i64 (p : Int)))
        rw [World.cell?_of_block (w := w) (a := ⟨s.bt, 0, none⟩) (b1 _ n1.2.2.1)]; exact ha.ct
      · rw [World.cell?_of_block (a := ⟨s.pg, o', none⟩) (b2 s.pg n)]; exact c1 o' ho
      · rw [World.cell?_of_block (a := ⟨s.pg, s.po, none⟩) (b2 s.pg n)]; exact c0
  obtain ⟨p', hp', hsz, k1, k2, k3, kb, kt, kf, ko, kp, kfz, he⟩ := key
  refine ⟨he, ⟨by rw [List.length_set]; exact h.len, fun j s' p2 hj hp2 => ?_, fun j s' hj => ?_⟩, ⟨k1, k2, k3, by omega, fun k _ hk => kb k (fun e => hk ⟨i, s, hs, Or.inl e⟩) (fun e => hk ⟨i, s, hs, Or.inr e⟩)⟩⟩
  · have m1 := o.at_ i j s s' hs hj
    have m2 := o.ask i j s s' hs hj
    have m3 := o.at_ j i s' s hj hs
    rw [List.getElem?_set] at hp2
    by_cases e : i = j
    · subst e
      rw [if_pos rfl, if_pos hpl] at hp2
      injection hp2 with hp2
      rw [hs] at hj
      injection hj with hj
      subst hj hp2
      rw [← hp']
      exact ⟨by rw [World.cell?_of_block (w := w) (a := ⟨s.ba, 0, none⟩) (kb _ (Ne.symm m1.1) (Ne.symm m2.1))]; exact ha.ca, kt, kf, by rw [World.cell?_of_block (w := w) (a := ⟨s.bl, 0, none⟩) (kb _ (Ne.symm m1.2.1) (Ne.symm m2.2.1))]; exact ha.cl, ha.rd.same (fun a ha' => kb _ (m1.2.2.2 a ha') (m2.2.2 a ha')) (by omega), by rw [hsz]; exact ha.lt, by omega, ha.hl⟩
    · rw [if_neg e] at hp2
      have hb := h.each j s' p2 hj hp2
      have m4 := o.one i j s s' hs hj e
      exact hb.same (kb _ (Ne.symm m1.1) (Ne.symm m2.1)) (kb _ (Ne.symm m4) m3.2.2.1) (kb _ (Ne.symm m1.2.1) (Ne.symm m2.2.1)) (fun a ha' => kb _ (m1.2.2.2 a ha') (m2.2.2 a ha')) (by omega)
  · have hb := h.cnt j s' hj
    have m1 := o.at_ i j s s' hs hj
    by_cases e : s'.pg = s.pg
    · by_cases e2 : s'.po = s.po
      · rw [e, e2] at hb ⊢
        refine ⟨by unfold up; rw [if_pos ⟨rfl, rfl⟩]; exact kp, by rw [kfz]; exact hb.2.1, ?_, ?_⟩
        · unfold up; rw [if_pos ⟨rfl, rfl⟩]; omega
        · unfold up; rw [if_pos ⟨rfl, rfl⟩]; omega
      · rw [e] at hb ⊢
        refine ⟨by unfold up; rw [if_neg (fun q => e2 q.2), ko _ e2]; exact hb.1, by rw [kfz]; exact hb.2.1, ?_, ?_⟩
        · unfold up; rw [if_neg (fun q => e2 q.2)]; exact hb.2.2.1
        · unfold up; rw [if_neg (fun q => e2 q.2)]; have := hb.2.2.2; omega
    · have kk := kb s'.pg (Ne.symm m1.2.2.1) e
      refine ⟨by unfold up; rw [if_neg (fun q => e q.1), World.cell?_of_block (w := w) (a := ⟨s'.pg, s'.po, none⟩) kk]; exact hb.1, by rw [World.frozen?_of_block (w := w) (a := ⟨s'.pg, s'.po, none⟩) kk]; exact hb.2.1, ?_, ?_⟩
      · unfold up; rw [if_neg (fun q => e q.1)]; exact hb.2.2.1
      · unfold up; rw [if_neg (fun q => e q.1)]; have := hb.2.2.2; omega
end Go.Proofs.Ytimfmflnaehmgaa
