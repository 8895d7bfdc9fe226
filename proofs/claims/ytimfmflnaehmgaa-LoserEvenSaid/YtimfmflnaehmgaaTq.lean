/-
  Sources of things of three ints in memory.
-/
import Derived.Test.YtimfmflnaehmgaaTx
namespace Go.Proofs.Ytimfmflnaehmgaa
set_option linter.unusedVariables false
set_option linter.unusedSimpArgs false
set_option maxRecDepth 100000
open Go.RowKit

/-- Things that can be read. -/
def IRt (w : World) (A : Option Addr) (xs : List Th) : Prop := ∀ (k : Nat) (x : Th), xs[k]? = some x → ∃ b o, A = some ⟨b, o, none⟩ ∧ b < w.heap.size ∧ w.cell? ⟨b, o + k * 3, none⟩ = some (.int .i64 x.1) ∧ w.cell? ⟨b, o + k * 3 + 1, none⟩ = some (.int .i64 x.2.1) ∧ w.cell? ⟨b, o + k * 3 + 2, none⟩ = some (.int .i64 x.2.2)
theorem IRt.same {w w' : World} {A : Option Addr} {xs : List Th} (h : IRt w A xs) (k : ∀ a, xs ≠ [] ∧ A = some a → w'.heap[a.block]? = w.heap[a.block]?) (hs : w.heap.size ≤ w'.heap.size) : IRt w' A xs := fun q i hi => by
  obtain ⟨g, o, h1, h2, h3, h4, h5⟩ := h q i hi
  have e : w'.heap[g]? = w.heap[g]? := k ⟨g, o, none⟩ ⟨(fun e => by rw [e] at hi; simp at hi), h1⟩
  exact ⟨g, o, h1, Nat.lt_of_lt_of_le h2 hs, by rw [World.cell?_of_block (w := w) (a := ⟨g, _, none⟩) e]; exact h3, by rw [World.cell?_of_block (w := w) (a := ⟨g, _, none⟩) e]; exact h4, by rw [World.cell?_of_block (w := w) (a := ⟨g, _, none⟩) e]; exact h5⟩
/-- A source over the list l: its variables' blocks (pg and po serve nothing here). -/
structure Tr where
  bt : Nat
  bl : Nat
  pg : Nat
  po : Nat
  A : Option Addr
  c : Nat
  l : List Th
def Tr.On (s : Tr) (a : Addr) : Prop := s.l ≠ [] ∧ s.A = some a
def Tr.v (s : Tr) : Value := .func (.func 15) #[] #[.pointer (some ⟨s.bt, 0, none⟩), .pointer (some ⟨s.bl, 0, none⟩)]
structure TrAt (w : World) (s : Tr) (p : Nat) : Prop where
  ct : w.cell? ⟨s.bt, 0, none⟩ = some (.int .i64 (p : Int))
  ft : w.frozen? ⟨s.bt, 0, none⟩ = false
  cl : w.cell? ⟨s.bl, 0, none⟩ = some (.slice s.A s.l.length s.c)
  rd : IRt w s.A s.l
  lt : s.bt < w.heap.size ∧ s.bl < w.heap.size
  hp : p ≤ s.l.length
  hl : s.l.length ≤ 1000000
theorem TrAt.same {w w' : World} {s : Tr} {p : Nat} (h : TrAt w s p) (k2 : w'.heap[s.bt]? = w.heap[s.bt]?) (k3 : w'.heap[s.bl]? = w.heap[s.bl]?) (k4 : ∀ a, s.On a → w'.heap[a.block]? = w.heap[a.block]?) (hs : w.heap.size ≤ w'.heap.size) : TrAt w' s p :=
  ⟨by rw [World.cell?_of_block (w := w) (a := ⟨s.bt, 0, none⟩) k2]; exact h.ct, by rw [World.frozen?_of_block (w := w) (a := ⟨s.bt, 0, none⟩) k2]; exact h.ft, by rw [World.cell?_of_block (w := w) (a := ⟨s.bl, 0, none⟩) k3]; exact h.cl, h.rd.same k4 hs, ⟨by have := h.lt; omega, by have := h.lt; omega⟩, h.hp, h.hl⟩
structure TrsOk (B : Nat) (ss : List Tr) : Prop where
  low : ∀ (i : Nat) (s : Tr), ss[i]? = some s → s.bt < B ∧ s.bl < B ∧ ∀ a, s.On a → a.block < B
  one : ∀ (i j : Nat) (s s' : Tr), ss[i]? = some s → ss[j]? = some s' → i ≠ j → s.bt ≠ s'.bt
  at_ : ∀ (i j : Nat) (s s' : Tr), ss[i]? = some s → ss[j]? = some s' → s.bt ≠ s'.bl ∧ ∀ a, s'.On a → a.block ≠ s.bt
structure Trs (w : World) (N : Nat) (ss : List Tr) (ps : List Nat) (q : Nat → Nat → Int) : Prop where
  len : ps.length = ss.length
  each : ∀ (i : Nat) (s : Tr) (p : Nat), ss[i]? = some s → ps[i]? = some p → TrAt w s p
def WrT (ss : List Tr) (k : Nat) : Prop := ∃ (i : Nat) (s : Tr), ss[i]? = some s ∧ k = s.bt
theorem TrsOk.wr {B : Nat} {ss : List Tr} (h : TrsOk B ss) (k : Nat) (hk : WrT ss k) : k < B := by
  obtain ⟨i, s, hs, e⟩ := hk
  have := h.low i s hs
  omega
theorem Trs.same {w w' : World} {B N : Nat} {ss : List Tr} {ps : List Nat} {q : Nat → Nat → Int} (h : Trs w N ss ps q) (o : TrsOk B ss) (k : ∀ b, b < B → w'.heap[b]? = w.heap[b]?) (hs : w.heap.size ≤ w'.heap.size) : Trs w' N ss ps q :=
  ⟨h.len, fun i s p hi hp => by
    have l := o.low i s hi
    exact (h.each i s p hi hp).same (k _ l.1) (k _ l.2.1) (fun a ha => k _ (l.2.2 a ha)) hs⟩
theorem Trs.below {w w' : World} {B N : Nat} {ss : List Tr} {ps : List Nat} {q : Nat → Nat → Int} (h : Trs w N ss ps q) (o : TrsOk B ss) (hB : B ≤ w.heap.size) (b : Below w.heap.size w w') : Trs w' N ss ps q := h.same o (fun k hk => b.block k (by omega)) b.size
/-- What source i still has. -/
def leftT (s : Tr) (p : Nat) : List Th := s.l.drop p
/-- A thing in a block of its own. -/
def ThV (w : World) (b : Nat) (x : Th) : Prop := Arr w b 46 [.int .i64 x.1, .int .i64 x.2.1, .int .i64 x.2.2]
theorem Try.size_th : (Try.prog.info? 46).map (·.size) = some 3 := by kernel_rfl
theorem ThV.run {w : World} {b : Nat} {x : Th} (h : ThV w b x) : (loadVar 46 ⟨b, 0, none⟩).run Try.prog w = .ok (.agg #[.int .i64 x.1, .int .i64 x.2.1, .int .i64 x.2.2]) w :=
  run_loadVar_mid w b 0 _ [.int .i64 x.1, .int .i64 x.2.1, .int .i64 x.2.2] _ (fun j v hv => by rw [Arr.cell h, Nat.zero_add]; exact hv) Try.underlying46 rfl Try.size_th
def thw (w : World) (b : Nat) (y : Th) : World := ((w.setCell ⟨b, 0, none⟩ (.int .i64 y.1)).setCell ⟨b, 1, none⟩ (.int .i64 y.2.1)).setCell ⟨b, 2, none⟩ (.int .i64 y.2.2)
theorem ThV.set {w : World} {b : Nat} {x : Th} (h : ThV w b x) (y : Th) : ThV (thw w b y) b y := Arr.set (Arr.set (Arr.set h 0 _) 1 _) 2 _
theorem thw_keep (w : World) (b : Nat) (y : Th) : Keep (· = b) w (thw w b y) := ⟨rfl, rfl, rfl, by simp [thw, World.setCell], fun k _ hn => by unfold thw; rw [heap_setCell_other _ _ k _ hn, heap_setCell_other _ _ k _ hn, heap_setCell_other _ _ k _ hn]⟩
theorem ret_th {fn : Func} {R : Ending → World → Prop} {a : Act} {w : World} {b : Nat} {x : Th} {q : Bool} (i j : Nat) (hf : fn.results = #[.cell i 46, .tmp j]) (hi : a.tmps.getD i undef = .pointer (some ⟨b, 0, none⟩)) (hj : a.tmps.getD j undef = .bool q) (h : ThV w b x) (hd : a.defers = [])
    (hR : R (.returned (.tuple #[.agg #[.int .i64 x.1, .int .i64 x.2.1, .int .i64 x.2.2], .bool q])) w) : bodyPost Try.prog fn R .ret a w := by
  refine bodyPost_ret (v := .tuple #[.agg #[.int .i64 x.1, .int .i64 x.2.1, .int .i64 x.2.2], .bool q]) ?_ hd hR
  unfold results
  rw [hf]
  rw [Array.getD_eq_getD_getElem?] at hi hj
  simp [hi, hj, asAddr, h.run]
theorem ret_th3 {fn : Func} {R : Ending → World → Prop} {a : Act} {w : World} {b : Nat} {x : Th} {u v : Value} (i j k : Nat) (hf : fn.results = #[.cell i 46, .tmp j, .tmp k]) (hi : a.tmps.getD i undef = .pointer (some ⟨b, 0, none⟩)) (hj : a.tmps.getD j undef = u) (hk : a.tmps.getD k undef = v) (h : ThV w b x) (hd : a.defers = [])
    (hR : R (.returned (.tuple #[.agg #[.int .i64 x.1, .int .i64 x.2.1, .int .i64 x.2.2], u, v])) w) : bodyPost Try.prog fn R .ret a w := by
  refine bodyPost_ret (v := .tuple #[.agg #[.int .i64 x.1, .int .i64 x.2.1, .int .i64 x.2.2], u, v]) ?_ hd hR
  unfold results
  rw [hf]
  rw [Array.getD_eq_getD_getElem?] at hi hj hk
  simp [hi, hj, hk, asAddr, h.run]
set_option maxHeartbeats 1000000 in
theorem tsource_any (s : Tr) (p : Nat) (w : World) (h : TrAt w s p) (n1 : s.bt ≠ s.bl ∧ ∀ a, s.On a → a.block ≠ s.bt) :
    Calls Try.prog 15 #[.pointer (some ⟨s.bt, 0, none⟩), .pointer (some ⟨s.bl, 0, none⟩)] w fun e w' =>
      e = .returned (.tuple #[.agg (thv ((leftT s p).headD thz)).toArray, .bool (!(leftT s p).isEmpty)]) ∧ Keep (· = s.bt) w w' ∧ w'.cell? ⟨s.bt, 0, none⟩ = some (.int .i64 ((min (p + 1) s.l.length : Nat) : Int)) ∧ w'.frozen? ⟨s.bt, 0, none⟩ = false := by
  obtain ⟨ct, ft, cl, rd, lt, hp, hl⟩ := h
  obtain ⟨m, hm⟩ : ∃ m, s.l.length = m := ⟨_, rfl⟩
  rw [hm] at cl hp hl ⊢
  obtain ⟨w1, hw1⟩ : ∃ W, W = w.alloc (.cells #[.int .i64 0, .int .i64 0, .int .i64 0] 46) := ⟨_, rfl⟩
  have B1 : Below w.heap.size w w1 := by rw [hw1]; exact (Below.refl _ _).alloc (Nat.le_refl _) _
  have R1 := Arr.new w 46 [.int .i64 0, .int .i64 0, .int .i64 0]
  have R1 : Arr w1 w.heap.size 46 [.int .i64 0, .int .i64 0, .int .i64 0] := by rw [hw1]; exact R1
  obtain ⟨z, hz⟩ : ∃ z, w.heap.size = z := ⟨_, rfl⟩
  rw [hz] at R1
  have ct1 : w1.cell? ⟨s.bt, 0, none⟩ = some (.int .i64 (p : Int)) := by rw [World.cell?_of_block (w := w) (a := ⟨s.bt, 0, none⟩) (B1.block _ lt.1)]; exact ct
  have ft1 : w1.frozen? ⟨s.bt, 0, none⟩ = false := by rw [World.frozen?_of_block (w := w) (a := ⟨s.bt, 0, none⟩) (B1.block _ lt.1)]; exact ft
  have cl1 : w1.cell? ⟨s.bl, 0, none⟩ = some (.slice s.A m s.c) := by rw [World.cell?_of_block (w := w) (a := ⟨s.bl, 0, none⟩) (B1.block _ lt.2)]; exact cl
  have y0 : w1.cell? ⟨z, 0, none⟩ = some (.int .i64 0) := Arr.cell R1 0
  have y1 : w1.cell? ⟨z, 1, none⟩ = some (.int .i64 0) := Arr.cell R1 1
  have y2 : w1.cell? ⟨z, 2, none⟩ = some (.int .i64 0) := Arr.cell R1 2
  have f0 : w1.frozen? ⟨z, 0, none⟩ = false := Arr.frozen R1 0
  have f1 : w1.frozen? ⟨z, 1, none⟩ = false := Arr.frozen R1 1
  have f2 : w1.frozen? ⟨z, 2, none⟩ = false := Arr.frozen R1 2
  by_cases hlt : p < m
  · obtain ⟨x, hx⟩ : ∃ x, s.l[p]? = some x := ⟨_, List.getElem?_eq_getElem (by omega)⟩
    obtain ⟨g, o, hA, hg, q1, q2, q3⟩ := rd p x hx
    have hne : s.l ≠ [] := fun e => by rw [e] at hx; simp at hx
    rw [hA] at cl1
    have HL : Hid (leftT s p = x :: s.l.drop (p + 1)) := Lib.hid (by
      have hpx := (List.getElem?_eq_some_iff.1 hx).1
      unfold leftT
      rw [List.drop_eq_getElem_cons hpx]
      congr 1
      rw [List.getElem?_eq_getElem hpx] at hx
      injection hx)
    obtain ⟨w2, hw2⟩ : ∃ W, W = w1.setCell ⟨s.bt, 0, none⟩ (.int .i64 ((p : Int) + 1)) := ⟨_, rfl⟩
    have b2 : ∀ k, k ≠ s.bt → w2.heap[k]? = w1.heap[k]? := fun k hk => by rw [hw2]; exact heap_setCell_other w1 _ k _ hk
    have hgz : g ≠ s.bt := n1.2 ⟨g, o, none⟩ ⟨hne, hA⟩
    have e2' : w2.heap[g]? = w.heap[g]? := by rw [b2 g hgz, B1.block g hg]
    have ct2 : w2.cell? ⟨s.bt, 0, none⟩ = some (.int .i64 ((p : Int) + 1)) := by rw [hw2]; exact World.cell?_setCell_same _ _ _ ct1
    have ft2 : w2.frozen? ⟨s.bt, 0, none⟩ = false := by rw [hw2]; simpa using ft1
    have cl2 : w2.cell? ⟨s.bl, 0, none⟩ = some (.slice (some ⟨g, o, none⟩) m s.c) := by rw [World.cell?_of_block (w := w1) (a := ⟨s.bl, 0, none⟩) (b2 _ (Ne.symm n1.1))]; exact cl1
    have x0 : w2.cell? ⟨g, o + p * 3, none⟩ = some (.int .i64 x.1) := by rw [World.cell?_of_block (w := w) (a := ⟨g, _, none⟩) e2']; exact q1
    have x1 : w2.cell? ⟨g, o + p * 3 + 1, none⟩ = some (.int .i64 x.2.1) := by rw [World.cell?_of_block (w := w) (a := ⟨g, _, none⟩) e2']; exact q2
    have x2 : w2.cell? ⟨g, o + p * 3 + 2, none⟩ = some (.int .i64 x.2.2) := by rw [World.cell?_of_block (w := w) (a := ⟨g, _, none⟩) e2']; exact q3
    have ltz : s.bt < z := by rw [← hz]; exact lt.1
    have R2 : Arr w2 z 46 [.int .i64 0, .int .i64 0, .int .i64 0] := Arr.same R1 (b2 z (by omega))
    have y0' : w2.cell? ⟨z, 0, none⟩ = some (.int .i64 0) := Arr.cell R2 0
    have y1' : w2.cell? ⟨z, 1, none⟩ = some (.int .i64 0) := Arr.cell R2 1
    have y2' : w2.cell? ⟨z, 2, none⟩ = some (.int .i64 0) := Arr.cell R2 2
    have f0' : w2.frozen? ⟨z, 0, none⟩ = false := Arr.frozen R2 0
    have f1' : w2.frozen? ⟨z, 1, none⟩ = false := Arr.frozen R2 1
    have f2' : w2.frozen? ⟨z, 2, none⟩ = false := Arr.frozen R2 2
    have d1 : decide ((m : Int) ≤ (p : Int)) = false := by rw [decide_eq_false_iff_not]; omega
    have d2 : decide (m ≤ p) = false := by rw [decide_eq_false_iff_not]; omega
    have e2 : IntKind.i64.wrap ((p : Int) + 1) = (p : Int) + 1 := IntWalk.i64_in _ (by omega)
    have e3 : IntKind.i64.wrap ((p : Int) + 1 - 1) = (p : Int) := by rw [IntWalk.i64_in _ (by omega)]; omega
    have i1 : (p : Int) < (m : Int) := by omega
    have FIN : Hid (Keep (· = s.bt) w (thw w2 z x) ∧ (thw w2 z x).cell? ⟨s.bt, 0, none⟩ = some (.int .i64 ((min (p + 1) m : Nat) : Int)) ∧ (thw w2 z x).frozen? ⟨s.bt, 0, none⟩ = false ∧ ThV (thw w2 z x) z x) := Lib.hid (by
      have kt := thw_keep w2 z x
      have hb : (thw w2 z x).heap[s.bt]? = w2.heap[s.bt]? := kt.block _ (by have := B1.size; rw [hw2]; simp [World.setCell]; omega) (by omega)
      refine ⟨⟨by rw [kt.os, hw2]; exact B1.os, by rw [kt.tape, hw2]; exact B1.tape, by rw [kt.output, hw2]; exact B1.output, Nat.le_trans B1.size (by have := kt.size; rw [hw2] at this ⊢; simpa [World.setCell] using this), fun k hk hn => ?_⟩, ?_, ?_, ThV.set (show ThV w2 z thz from R2) x⟩
      · rw [kt.block k (by have := B1.size; rw [hw2]; simp [World.setCell]; omega) (by show k ≠ z; omega), b2 k hn, B1.block k hk]
      · rw [World.cell?_of_block (w := w2) (a := ⟨s.bt, 0, none⟩) hb, ct2, Nat.min_eq_left (by omega)]; rfl
      · rw [World.frozen?_of_block (w := w2) (a := ⟨s.bt, 0, none⟩) hb]; exact ft2)
    have HW1 := Lib.hid hw1; have HW2 := Lib.hid hw2; have HZ := Lib.hid hz
    clear n1 rd hm cl ct ft hw1 hw2 hz B1 R1 R2 lt b2 hA hne hx q1 q2 q3 e2' hgz ltz
    go_enter Try.func15, Try.ntmps15
    go_upto_region 1 with fail
    rw [← HW1.out, HZ.out]
    go_upto_region 4 with fail
    rw [← HW2.out]
    go_wp2_with fail
    refine ret_th 2 3 rfl rfl rfl (b := z) (x := x) FIN.out.2.2.2 rfl ?_
    rw [HL.out]
    exact ⟨rfl, FIN.out.1, FIN.out.2.1, FIN.out.2.2.1⟩
  · obtain rfl : p = m := by omega
    have d1 : decide ((p : Int) ≤ (p : Int)) = true := by rw [decide_eq_true_eq]; omega
    have HL : Hid (leftT s p = []) := Lib.hid (by unfold leftT; rw [← hm]; exact List.drop_length)
    have FIN : Hid (Keep (· = s.bt) w (thw w1 z thz) ∧ (thw w1 z thz).cell? ⟨s.bt, 0, none⟩ = some (.int .i64 ((min (p + 1) p : Nat) : Int)) ∧ (thw w1 z thz).frozen? ⟨s.bt, 0, none⟩ = false ∧ ThV (thw w1 z thz) z thz) := Lib.hid (by
      have kt := thw_keep w1 z thz
      have hb : (thw w1 z thz).heap[s.bt]? = w1.heap[s.bt]? := kt.block _ (by have := B1.size; omega) (by omega)
      refine ⟨⟨by rw [kt.os]; exact B1.os, by rw [kt.tape]; exact B1.tape, by rw [kt.output]; exact B1.output, Nat.le_trans B1.size kt.size, fun k hk hn => ?_⟩, ?_, ?_, ThV.set (show ThV w1 z thz from R1) thz⟩
      · rw [kt.block k (by have := B1.size; omega) (by show k ≠ z; omega), B1.block k hk]
      · rw [World.cell?_of_block (w := w1) (a := ⟨s.bt, 0, none⟩) hb, ct1, Nat.min_eq_right (by omega)]
      · rw [World.frozen?_of_block (w := w1) (a := ⟨s.bt, 0, none⟩) hb]; exact ft1)
    have HW1 := Lib.hid hw1; have HZ := Lib.hid hz
    clear n1 rd hm cl ct ft hw1 hz B1 R1 lt
    go_enter Try.func15, Try.ntmps15
    go_upto_region 1 with fail
    rw [← HW1.out, HZ.out]
    go_wp2_with fail
    refine ret_th 2 3 rfl rfl rfl (b := z) (x := thz) FIN.out.2.2.2 rfl ?_
    rw [HL.out]
    exact ⟨rfl, FIN.out.1, FIN.out.2.1, FIN.out.2.2.1⟩
theorem Trs.call {B N i : Nat} {ss : List Tr} {ps : List Nat} {q : Nat → Nat → Int} {s : Tr} {p : Nat} {w : World} (h : Trs w N ss ps q) (o : TrsOk B ss) (hs : ss[i]? = some s) (hp : ps[i]? = some p) :
    Calls Try.prog 15 #[.pointer (some ⟨s.bt, 0, none⟩), .pointer (some ⟨s.bl, 0, none⟩)] w fun e w' =>
      e = .returned (.tuple #[.agg (thv ((leftT s p).headD thz)).toArray, .bool (!(leftT s p).isEmpty)]) ∧ Trs w' (N + 1) ss (ps.set i (min (p + 1) s.l.length)) (up q s.pg s.po) ∧ Keep (WrT ss) w w' := by
  have ha := h.each i s p hs hp
  have hpl := (List.getElem?_eq_some_iff.1 hp).1
  have n1 := o.at_ i i s s hs hs
  refine (tsource_any s p w ha n1).mono ?_
  rintro e w' ⟨he, kp, kt, kf⟩
  have hsz := kp.size
  refine ⟨he, ⟨by rw [List.length_set]; exact h.len, fun j s' p2 hj hp2 => ?_⟩, ⟨kp.os, kp.tape, kp.output, kp.size, fun k hk hn => kp.block k hk (fun e => hn ⟨i, s, hs, e⟩)⟩⟩
  have m1 := o.at_ i j s s' hs hj
  have kb : ∀ k, k < w.heap.size → k ≠ s.bt → w'.heap[k]? = w.heap[k]? := fun k hk hn => kp.block k hk hn
  rw [List.getElem?_set] at hp2
  by_cases e : i = j
  · subst e
    rw [if_pos rfl, if_pos hpl] at hp2
    injection hp2 with hp2
    rw [hs] at hj
    injection hj with hj
    subst hj hp2
    exact ⟨kt, kf, by rw [World.cell?_of_block (w := w) (a := ⟨s.bl, 0, none⟩) (kb _ ha.lt.2 (Ne.symm m1.1))]; exact ha.cl, ha.rd.same (fun a ha' => kb _ (by
        obtain ⟨x, r, e9⟩ : ∃ x r, s.l = x :: r := by
          cases hq : s.l with
          | nil => exact absurd hq ha'.1
          | cons x r => exact ⟨x, r, rfl⟩
        obtain ⟨g, o9, q1, q2, _⟩ := ha.rd 0 x (by rw [e9]; rfl)
        rw [ha'.2] at q1; injection q1 with q1; subst q1; exact q2) (m1.2 a ha')) hsz, ⟨by have := ha.lt; omega, by have := ha.lt; omega⟩, by omega, ha.hl⟩
  · rw [if_neg e] at hp2
    have hb := h.each j s' p2 hj hp2
    have m4 := o.one i j s s' hs hj e
    exact hb.same (kb _ hb.lt.1 (Ne.symm m4)) (kb _ hb.lt.2 (Ne.symm m1.1)) (fun a ha' => kb _ (by
        obtain ⟨x, r, e9⟩ : ∃ x r, s'.l = x :: r := by
          cases hq : s'.l with
          | nil => exact absurd hq ha'.1
          | cons x r => exact ⟨x, r, rfl⟩
        obtain ⟨g, o9, q1, q2, _⟩ := hb.rd 0 x (by rw [e9]; rfl)
        rw [ha'.2] at q1; injection q1 with q1; subst q1; exact q2) (m1.2 a ha')) hsz
end Go.Proofs.Ytimfmflnaehmgaa
