/-
  A tree of losers in memory, over things of ints: what it is made of.
-/
import Derived.Test.YtimfmflnaehmgaaLa
import Derived.Test.YtimfmflnaehmgaaLt
import Derived.Test.YtimfmflnaehmgaaChecked
import Derived.BigQuiet
import Derived.BigRegion
import Derived.Deep.QuietTactic
import Derived.Lib.Hide
import Derived.StillTailTactics
import Derived.IntWalk
import Derived.Deep.DeepCutAuto
namespace Go.Proofs.Ytimfmflnaehmgaa
set_option linter.unusedVariables false
set_option linter.unusedSimpArgs false
set_option maxRecDepth 100000
open Go.RowKit

theorem belowN (w : World) (n : Nat) : Below w.heap.size w (w.drewN n) := ⟨rfl, rfl, rfl, Nat.le_refl _, fun _ _ => rfl⟩
/-- A node: a slice of sources. -/
structure Nd where
  A : Option Addr
  c : Nat
  xs : List Nat
def Nd.v (e : Nd) : Value := .slice e.A e.xs.length e.c
theorem ivals_len (xs : List Nat) : (ivals xs).length = xs.length := by unfold ivals; rw [List.length_map]
theorem ivals_app (xs ys : List Nat) : ivals xs ++ ivals ys = ivals (xs ++ ys) := by unfold ivals; rw [List.map_append]
theorem ivals_get {xs : List Nat} {k i : Nat} (h : xs[k]? = some i) : (ivals xs)[k]? = some (.int .i64 (i : Int)) := by unfold ivals; rw [List.getElem?_map, h]; rfl
theorem ivals_one (xs : List Nat) (u : Value) (h : u ∈ ivals xs) : u.oneCell' = true := by
  unfold ivals at h
  obtain ⟨x, _, rfl⟩ := List.mem_map.1 h
  rfl
theorem cells_int : Cells1 27 3 := by
  obtain ⟨i, h1, h2, h3, h4⟩ := info_parts (P := Try.prog) (e := 3) (z := .int .i64 0) (size := 1) (bytes := 8) (by kernel_rfl)
  exact ⟨Try.underlying27, i, _, h1, h2, h3, by rw [h4]; decide, rfl⟩
/-- Behind appends that began at A and ended at A'. -/
def Gr (w w' : World) (A A' : Option Addr) : Prop := Keep (Of A) w w' ∧ (A' = A ∨ ∃ g, A' = some ⟨g, 0, none⟩ ∧ w.heap.size ≤ g)
theorem Gr.refl (w : World) (A : Option Addr) : Gr w w A A := ⟨Keep.refl _ _, Or.inl rfl⟩
theorem Gr.sub {w w' : World} {A A' : Option Addr} (h : Gr w w' A A') : Sub (Of A') (Of A) w := fun k hk => by
  rcases h.2 with e | ⟨g, e, hg⟩
  · subst e; exact Or.inl hk
  · obtain ⟨a, ha, rfl⟩ := hk
    rw [e] at ha
    injection ha with ha
    subst ha
    exact Or.inr hg
theorem Gr.trans {w w' w'' : World} {A A' A'' : Option Addr} (h : Gr w w' A A') (h' : Gr w' w'' A' A'') : Gr w w'' A A'' := by
  refine ⟨h.1.trans h.sub h'.1, ?_⟩
  have := h.1.size
  rcases h'.2 with e | ⟨g, e, hg⟩
  · subst e; exact h.2
  · exact Or.inr ⟨g, e, by omega⟩
theorem Gr.below {w w' w'' : World} {A A' : Option Addr} (h : Gr w w' A A') (b : Below w'.heap.size w' w'') : Gr w w'' A A' := by
  refine ⟨h.1.trans h.sub (Keep.of_below b), h.2⟩
theorem Gr.after {w w' w'' : World} {A A' : Option Addr} (b : Below w.heap.size w w') (h : Gr w' w'' A A') : Gr w w'' A A' := by
  have := b.size
  refine ⟨(Keep.of_below (F := Of A) b).trans (Sub.refl _ _) h.1, ?_⟩
  rcases h.2 with e | ⟨g, e, hg⟩
  · exact Or.inl e
  · exact Or.inr ⟨g, e, by omega⟩
/-- The nodes of a tree, their rows in blocks of G. -/
structure Nds (w : World) (G : Nat → Prop) (nb : Nat) (N : List Nd) : Prop where
  arr : Arr w nb 27 (N.map Nd.v)
  row : ∀ (m : Nat) (e : Nd), N[m]? = some e → RowA w 3 e.A e.c (ivals e.xs)
  own : ∀ (m : Nat) (e : Nd) (a : Addr), N[m]? = some e → e.A = some a → G a.block
  apart : ∀ (m m' : Nat) (e e' : Nd) (a a' : Addr), N[m]? = some e → N[m']? = some e' → e.A = some a → e'.A = some a' → a.block = a'.block → m = m'
theorem Nds.keep {w w' : World} {G F : Nat → Prop} {nb : Nat} {N : List Nd} (h : Nds w G nb N) (k : Keep F w w') (h1 : ¬ F nb) (h2 : ∀ b, G b → ¬ F b) : Nds w' G nb N :=
  ⟨Arr.same h.arr (k.block nb (Arr.lt h.arr) h1), fun m e he => (h.row m e he).same (fun a ha => k.block _ ((h.row m e he).lt a ha) (h2 _ (h.own m e a he ha))), h.own, h.apart⟩
theorem Nds.at {w : World} {G : Nat → Prop} {nb m : Nat} {N : List Nd} {e : Nd} (h : Nds w G nb N) (he : N[m]? = some e) : w.cell? ⟨nb, m, none⟩ = some (.slice e.A e.xs.length e.c) ∧ w.frozen? ⟨nb, m, none⟩ = false := by
  refine ⟨?_, Arr.frozen h.arr m⟩
  rw [Arr.cell h.arr, List.getElem?_map, he]
  rfl
/-- Node n's row grew, and the node was turned to it. -/
theorem Nds.put {w w1 : World} {G : Nat → Prop} {nb n c : Nat} {N : List Nd} {e : Nd} {A : Option Addr} {xs : List Nat} (h : Nds w G nb N) (he : N[n]? = some e) (hG : ¬ G nb) (g : Gr w w1 e.A A) (r : RowA w1 3 A c (ivals xs)) :
    Nds (w1.setCell ⟨nb, n, none⟩ (.slice A xs.length c)) (fun k => G k ∨ Of A k) nb (N.set n ⟨A, c, xs⟩) ∧ Keep (fun k => k = nb ∨ G k) w (w1.setCell ⟨nb, n, none⟩ (.slice A xs.length c)) ∧ Sub (fun k => G k ∨ Of A k) G w := by
  have hn : n < N.length := by
    rcases Nat.lt_or_ge n N.length with q | q
    · exact q
    · rw [List.getElem?_eq_none q] at he; cases he
  have hGof : ∀ k, Of e.A k → G k := fun k ⟨a, ha, hk⟩ => by subst hk; exact h.own n e a he ha
  have hnl := Arr.lt h.arr
  have a1 : Arr w1 nb 27 (N.map Nd.v) := Arr.same h.arr (g.1.block nb hnl (fun q => hG (hGof _ q)))
  have hsub : Sub (fun k => G k ∨ Of A k) G w := fun k hk => by
    rcases hk with hk | hk
    · exact Or.inl hk
    · rcases g.sub k hk with q | q
      · exact Or.inl (hGof k q)
      · exact Or.inr q
  have hAnb : ∀ a, A = some a → a.block ≠ nb := fun a ha q => by
    rcases g.sub a.block ⟨a, ha, rfl⟩ with r | r
    · exact hG (q ▸ hGof _ r)
    · omega
  refine ⟨⟨?_, fun m e' he' => ?_, fun m e' a he' ha => ?_, fun m m' e1 e2 a1 a2 h1 h2 q1 q2 hq => ?_⟩, ?_, hsub⟩
  · have := Arr.set a1 n (.slice A xs.length c)
    rw [show (N.set n ⟨A, c, xs⟩).map Nd.v = (N.map Nd.v).set n (.slice A xs.length c) by rw [List.map_set]; rfl]
    exact this
  · rw [List.getElem?_set] at he'
    split at he'
    · rename_i q
      subst q
      try rw [if_pos hn] at he'
      injection he' with he'
      subst he'
      exact r.other hAnb _
    · rename_i q
      have r0 := h.row m e' he'
      have k0 : ∀ a, e'.A = some a → a.block ≠ nb := fun a ha q2 => hG (q2 ▸ h.own m e' a he' ha)
      refine RowA.other (r0.same (fun a ha => g.1.block _ (r0.lt a ha) (fun ⟨a2, ha2, q2⟩ => q (h.apart n m e e' a2 a he he' ha2 ha q2.symm)))) k0 _
  · rw [List.getElem?_set] at he'
    split at he'
    · rename_i q
      subst q
      try rw [if_pos hn] at he'
      injection he' with he'
      subst he'
      exact Or.inr ⟨a, ha, rfl⟩
    · exact Or.inl (h.own m e' a he' ha)
  · have key : ∀ (m : Nat) (e' : Nd) (a a2 : Addr), n ≠ m → N[m]? = some e' → e'.A = some a → A = some a2 → a.block ≠ a2.block := fun m e' a a2 hm he' ha ha2 q => by
      rcases g.2 with e3 | ⟨gg, e3, hg⟩
      · exact hm (h.apart n m e e' a2 a he he' (by rw [← e3]; exact ha2) ha q.symm)
      · rw [e3] at ha2
        injection ha2 with ha2
        subst ha2
        have := (h.row m e' he').lt a ha
        have q : a.block = gg := q
        omega
    rw [List.getElem?_set] at h1 h2
    by_cases m1 : n = m
    · by_cases m2 : n = m'
      · omega
      · rw [if_neg m2] at h2
        rw [if_pos m1, if_pos (by omega)] at h1
        injection h1 with h1
        subst h1
        exact absurd hq.symm (key m' e2 a2 a1 m2 h2 q2 q1)
    · rw [if_neg m1] at h1
      by_cases m2 : n = m'
      · rw [if_pos m2, if_pos (by omega)] at h2
        injection h2 with h2
        subst h2
        exact absurd hq (key m e1 a1 a2 m1 h1 q1 q2)
      · rw [if_neg m2] at h2
        exact h.apart m m' e1 e2 a1 a2 h1 h2 q1 q2 hq
  · refine ⟨g.1.os, g.1.tape, g.1.output, by rw [show (w1.setCell ⟨nb, n, none⟩ (.slice A xs.length c)).heap.size = w1.heap.size by simp [World.setCell]]; exact g.1.size, fun k hk hn => ?_⟩
    rw [heap_setCell_other w1 ⟨nb, n, none⟩ k _ (fun q => hn (Or.inl q))]
    exact g.1.block k hk (fun q => hn (Or.inr (hGof k q)))
/-- Where a tree lies. -/
structure Lay where
  sA : Option Addr
  sc : Nat
  hb : Nat
  nb : Nat
  d : Nat
  lv : Nat
  N : List Nd
/-- What a source has at hand: the first of its row. -/
def hkey (R : List (List Int)) (i : Nat) : Int := (R.getD i []).headD 0
def hlive (R : List (List Int)) (i : Nat) : Bool := !(R.getD i []).isEmpty
def hvals (R : List (List Int)) : List Value := R.map (fun r => .int .i64 (r.headD 0))
def lives (R : List (List Int)) : Nat := (R.filter (fun r => !r.isEmpty)).length
theorem hvals_at {R : List (List Int)} {i : Nat} (h : i < R.length) : (hvals R)[i]? = some (.int .i64 (hkey R i)) := by
  unfold hvals hkey
  rw [List.getElem?_map, List.getElem?_eq_getElem h, List.getD_eq_getElem?_getD, List.getElem?_eq_getElem h]; rfl
theorem hlive_lt {R : List (List Int)} {i : Nat} (h : hlive R i = true) : i < R.length := by
  rcases Nat.lt_or_ge i R.length with q | q
  · exact q
  · unfold hlive at h
    rw [List.getD_eq_getElem?_getD, List.getElem?_eq_none q] at h
    simp at h
def LI.fv : Value := .func (.func 8) #[] #[]
/-- A tree in block b, over the sources fs; R: what each has at hand, and behind it. -/
structure LI.In (w : World) (G : Nat → Prop) (b : Nat) (fs : List Value) (R : List (List Int)) (L : Lay) : Prop where
  st : Arr w b 55 [LI.fv, .slice L.sA fs.length L.sc, .slice (some ⟨L.hb, 0, none⟩) R.length R.length, .int .i64 (L.lv : Int), .slice (some ⟨L.nb, 0, none⟩) (2 * 2 ^ L.d) (2 * 2 ^ L.d)]
  src : RowA w 25 L.sA L.sc fs
  hand : Arr w L.hb 3 (hvals R)
  nds : Nds w G L.nb L.N
  gs : ∀ k, G k → k < w.heap.size ∧ k ≠ b ∧ k ≠ L.hb ∧ k ≠ L.nb ∧ ∀ a, L.sA = some a → k ≠ a.block
  len : L.N.length = 2 * 2 ^ L.d
  lens : fs.length = R.length
  fit : R.length ≤ 2 ^ L.d
  small : 2 ^ L.d ≤ 1000
  ok : ∀ (m : Nat) (e : Nd), L.N[m]? = some e → e.xs.length ≤ 1000 ∧ ∀ i, i ∈ e.xs → i < R.length
/-- Blocks of unlike kinds. -/
theorem arr_ne {w : World} {g h : Nat} {t t' : TypeId} {vs vs' : List Value} (a : Arr w g t vs) (a' : Arr w h t' vs') (hne : t ≠ t') : g ≠ h := fun e => by
  subst e
  unfold Arr at a a'
  rw [a] at a'
  injection a' with a'
  injection a' with _ a'
  exact hne a'
theorem LI.In.below {w w' : World} {G : Nat → Prop} {b : Nat} {fs : List Value} {R : List (List Int)} {L : Lay} (h : LI.In w G b fs R L) (k : Below w.heap.size w w') : LI.In w' G b fs R L := by
  have hs := k.size
  exact ⟨Arr.below h.st k, h.src.below k, Arr.below h.hand k, h.nds.keep (Keep.of_below (F := fun _ => False) k) (fun q => q) (fun _ _ q => q), fun k hk => ⟨by have := (h.gs k hk).1; omega, (h.gs k hk).2⟩, h.len, h.lens, h.fit, h.small, h.ok⟩
theorem LI.less_any (x y : Int) (w : World) : Calls Try.prog 8 #[.int .i64 x, .int .i64 y] w fun e w' => e = .returned (.bool (decide (x < y))) ∧ Below w.heap.size w w' := by
  go_enter Try.func8, Try.ntmps8
  go_wp2
  go_ret
  exact ⟨rfl, Below.refl _ _⟩
/-- What a match asks of a tree. -/
structure LI.Hd (w : World) (b hb : Nat) (R : List (List Int)) : Prop where
  c0 : w.cell? ⟨b, 0, none⟩ = some LI.fv
  c2 : w.cell? ⟨b, 2, none⟩ = some (.slice (some ⟨hb, 0, none⟩) R.length R.length)
  lt : b < w.heap.size
  hand : Arr w hb 3 (hvals R)
  small : R.length ≤ 1000
theorem LI.In.hd {w : World} {G : Nat → Prop} {b : Nat} {fs : List Value} {R : List (List Int)} {L : Lay} (h : LI.In w G b fs R L) : LI.Hd w b L.hb R :=
  ⟨Arr.cell h.st 0, Arr.cell h.st 2, Arr.lt h.st, h.hand, Nat.le_trans h.fit h.small⟩
theorem LI.Hd.same {w w' : World} {b hb : Nat} {R : List (List Int)} (h : LI.Hd w b hb R) (k : w'.heap[b]? = w.heap[b]?) (k2 : w'.heap[hb]? = w.heap[hb]?) (hs : w.heap.size ≤ w'.heap.size) : LI.Hd w' b hb R :=
  ⟨by rw [World.cell?_of_block (w := w) (a := ⟨b, 0, none⟩) k]; exact h.c0, by rw [World.cell?_of_block (w := w) (a := ⟨b, 2, none⟩) k]; exact h.c2, Nat.lt_of_lt_of_le h.lt hs, Arr.same h.hand k2, h.small⟩
theorem LI.Hd.below {w w' : World} {b hb : Nat} {R : List (List Int)} (h : LI.Hd w b hb R) (k : Below w.heap.size w w') : LI.Hd w' b hb R := h.same (k.block b h.lt) (k.block hb (Arr.lt h.hand)) k.size
/-- Does what source i has at hand beat what source j has? -/
theorem LI.beats_any (b hb i j : Nat) (R : List (List Int)) (w : World) (h : LI.Hd w b hb R) (hi : i < R.length) (hj : j < R.length) :
    Calls Try.prog 34 #[.pointer (some ⟨b, 0, none⟩), .int .i64 i, .int .i64 j] w fun e w' => e = .returned (.bool (decide (hkey R i < hkey R j))) ∧ Below w.heap.size w w' := by
  have c0 := h.c0
  have c2 := h.c2
  have h1 : w.cell? ⟨hb, i, none⟩ = some (.int .i64 (hkey R i)) := by rw [Arr.cell h.hand]; exact hvals_at hi
  have h2 : w.cell? ⟨hb, j, none⟩ = some (.int .i64 (hkey R j)) := by rw [Arr.cell h.hand]; exact hvals_at hj
  have hR := h.small
  obtain ⟨k, hk⟩ : ∃ k, R.length = k := ⟨_, rfl⟩
  obtain ⟨x, hx⟩ : ∃ x, hkey R i = x := ⟨_, rfl⟩
  obtain ⟨y, hy⟩ : ∃ y, hkey R j = y := ⟨_, rfl⟩
  rw [hk] at hi hj hR c2
  rw [hx] at h1 ⊢; rw [hy] at h2 ⊢
  have i1 : (i : Int) < (k : Int) := by omega
  have i2 : (j : Int) < (k : Int) := by omega
  have LS := Lib.hid (fun w2 => LI.less_any x y w2)
  clear h hk hx hy
  unfold LI.fv at c0
  go_enter Try.func34, Try.ntmps34
  go_wp2_with fail
  go_still_tail 18, (by kernel_rfl)
  change wpList _ _ _ _ _ w.drew
  have BD : Hid (Below w.heap.size w w.drew) := Lib.hid (Below.refl _ _).drew
  go_wp2_with fail
  refine (LS.out _).mono ?_
  rintro e2 w2 ⟨rfl, b2⟩
  have B2 : Hid (Below w.heap.size w w2) := Lib.hid (bstep BD.out b2)
  clear b2
  go_wp2_with fail
  go_ret
  exact ⟨rfl, B2.out⟩
/-- Sources that can be read. -/
def IRn (w : World) (A : Option Addr) (xs : List Nat) : Prop := ∀ (k i : Nat), xs[k]? = some i → ∃ g o, A = some ⟨g, o, none⟩ ∧ g < w.heap.size ∧ w.cell? ⟨g, o + k, none⟩ = some (.int .i64 (i : Int))
theorem RowA.irn {w : World} {A : Option Addr} {c : Nat} {xs : List Nat} (h : RowA w 3 A c (ivals xs)) : IRn w A xs := fun k i hi => by
  have hk := (List.getElem?_eq_some_iff.1 hi).1
  obtain ⟨g, rfl, h1⟩ := h.at (by rw [ivals_len]; omega)
  refine ⟨g, 0, rfl, h.lt _ rfl, ?_⟩
  rw [Nat.zero_add, (h1 k).2 (by rw [ivals_len]; exact hk)]
  exact ivals_get hi
theorem IRn.below {w w' : World} {A : Option Addr} {xs : List Nat} (h : IRn w A xs) (k : Below w.heap.size w w') : IRn w' A xs := fun q i hi => by
  obtain ⟨g, o, h1, h2, h3⟩ := h q i hi
  exact ⟨g, o, h1, Nat.lt_of_lt_of_le h2 k.size, by rw [World.cell?_of_block (w := w) (a := ⟨g, o + q, none⟩) (k.block g h2)]; exact h3⟩
theorem IRn.same {w w' : World} {A : Option Addr} {xs : List Nat} (h : IRn w A xs) (k : ∀ a, A = some a → w'.heap[a.block]? = w.heap[a.block]?) (hs : w.heap.size ≤ w'.heap.size) : IRn w' A xs := fun q i hi => by
  obtain ⟨g, o, h1, h2, h3⟩ := h q i hi
  exact ⟨g, o, h1, Nat.lt_of_lt_of_le h2 hs, by rw [World.cell?_of_block (w := w) (a := ⟨g, o + q, none⟩) (show w'.heap[g]? = w.heap[g]? from k ⟨g, o, none⟩ h1)]; exact h3⟩
theorem IRn.tail {w : World} {g o x : Nat} {xs : List Nat} (h : IRn w (some ⟨g, o, none⟩) (x :: xs)) : IRn w (some ⟨g, o + 1, none⟩) xs := fun q i hi => by
  obtain ⟨g', o', h1, h2, h3⟩ := h (q + 1) i (by rw [List.getElem?_cons_succ]; exact hi)
  injection h1 with h1
  injection h1 with h1 h1'
  subst h1 h1'
  exact ⟨g, o + 1, rfl, h2, by rw [show o + 1 + q = o + (q + 1) by omega]; exact h3⟩
theorem IRn.head {w : World} {A : Option Addr} {x : Nat} {xs : List Nat} (h : IRn w A (x :: xs)) : ∃ g o, A = some ⟨g, o, none⟩ ∧ g < w.heap.size ∧ w.cell? ⟨g, o, none⟩ = some (.int .i64 (x : Int)) := by
  obtain ⟨g, o, h1, h2, h3⟩ := h 0 x rfl
  exact ⟨g, o, h1, h2, h3⟩
end Go.Proofs.Ytimfmflnaehmgaa
