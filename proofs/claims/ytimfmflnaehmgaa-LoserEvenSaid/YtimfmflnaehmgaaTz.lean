/-
  Sources of things that a law makes, one behind the other; things that come out in order: maths alone.
-/
import Derived.Test.YtimfmflnaehmgaaTo
import Derived.Test.YtimfmflnaehmgaaLz
import Derived.Test.YtimfmflnaehmgaaMemN
namespace Go.Proofs.Ytimfmflnaehmgaa
set_option linter.unusedVariables false
set_option linter.unusedSimpArgs false
set_option maxRecDepth 100000
open Go.RowKit

/-- Blocks that the sources stand on. -/
def SBt (ss : List Tr) (k : Nat) : Prop := ∃ (i : Nat) (s : Tr), ss[i]? = some s ∧ (k = s.bt ∨ k = s.bl ∨ ∃ a, s.On a ∧ k = a.block)
theorem Trs.stay {w w' : World} {N : Nat} {ss : List Tr} {ps : List Nat} {q : Nat → Nat → Int} (h : Trs w N ss ps q) (k : ∀ b, SBt ss b → w'.heap[b]? = w.heap[b]?) (hs : w.heap.size ≤ w'.heap.size) : Trs w' N ss ps q :=
  ⟨h.len, fun i s p hi hp => (h.each i s p hi hp).same (k _ ⟨i, s, hi, Or.inl rfl⟩) (k _ ⟨i, s, hi, Or.inr (Or.inl rfl)⟩) (fun a ha => k _ ⟨i, s, hi, Or.inr (Or.inr ⟨a, ha, rfl⟩)⟩) hs⟩
theorem TrsOk.nil (B : Nat) : TrsOk B [] := ⟨fun i s h => by simp at h, fun i j s s' h => by simp at h, fun i j s s' h => by simp at h⟩
theorem Trs.nil (w : World) (N : Nat) (q : Nat → Nat → Int) : Trs w N [] [] q := ⟨rfl, fun i s p h => by simp at h⟩
theorem TrsOk.sb {B : Nat} {ss : List Tr} (h : TrsOk B ss) (k : Nat) (hk : SBt ss k) : k < B := by
  obtain ⟨i, s, hs, e⟩ := hk
  have := h.low i s hs
  rcases e with rfl | rfl | ⟨a, ha, rfl⟩
  · omega
  · omega
  · exact this.2.2 a ha
/-- One source more, in new blocks. -/
theorem TrsOk.snoc {B B' : Nat} {ss : List Tr} {s : Tr} (h : TrsOk B ss) (hB : B ≤ B') (f2 : B ≤ s.bt ∧ s.bt < B') (f3 : B ≤ s.bl ∧ s.bl < B') (n1 : s.bt ≠ s.bl) (f5 : ∀ a, s.On a → B ≤ a.block ∧ a.block < B' ∧ a.block ≠ s.bt) : TrsOk B' (ss ++ [s]) := by
  have lowS : ∀ (i : Nat) (s' : Tr), ss[i]? = some s' → s'.bt < B ∧ s'.bl < B ∧ ∀ a, s'.On a → a.block < B := h.low
  refine ⟨fun i s' hi => ?_, fun i j s1 s2 hi hj hne => ?_, fun i j s1 s2 hi hj => ?_⟩
  · rcases snoc_at hi with ⟨q, _⟩ | ⟨_, rfl⟩
    · obtain ⟨a, b, c⟩ := lowS i s' q
      exact ⟨by omega, by omega, fun x hx => by have := c x hx; omega⟩
    · exact ⟨f2.2, f3.2, fun a ha => (f5 a ha).2.1⟩
  · rcases snoc_at hi with ⟨q, q'⟩ | ⟨q', rfl⟩
    · rcases snoc_at hj with ⟨r, r'⟩ | ⟨r', rfl⟩
      · exact h.one i j s1 s2 q r hne
      · have := (lowS i s1 q).1; omega
    · rcases snoc_at hj with ⟨r, r'⟩ | ⟨r', rfl⟩
      · have := (lowS j s2 r).1; omega
      · omega
  · rcases snoc_at hi with ⟨q, q'⟩ | ⟨q', rfl⟩
    · rcases snoc_at hj with ⟨r, r'⟩ | ⟨r', rfl⟩
      · exact h.at_ i j s1 s2 q r
      · have l1 := lowS i s1 q
        exact ⟨by omega, fun a ha => by have := f5 a ha; omega⟩
    · rcases snoc_at hj with ⟨r, r'⟩ | ⟨r', rfl⟩
      · have l2 := lowS j s2 r
        exact ⟨by omega, fun a ha => by have := l2.2.2 a ha; omega⟩
      · exact ⟨n1, fun a ha => (f5 a ha).2.2⟩
theorem Trs.snoc {w : World} {N : Nat} {ss : List Tr} {ps : List Nat} {q : Nat → Nat → Int} {s : Tr} (h : Trs w N ss ps q) (a : TrAt w s 0) : Trs w N (ss ++ [s]) (ps ++ [0]) q := by
  refine ⟨by rw [List.length_append, List.length_append, h.len]; rfl, fun i s' p hi hp => ?_⟩
  rcases snoc_at hi with ⟨r, r'⟩ | ⟨r', rfl⟩
  · rcases snoc_at hp with ⟨t, _⟩ | ⟨t', rfl⟩
    · exact h.each i s' p r t
    · have := h.len; omega
  · rcases snoc_at hp with ⟨t, t'⟩ | ⟨t', rfl⟩
    · have := h.len; omega
    · exact a
/-- Things' cells. -/
def thc (xs : List Th) : List Value := xs.flatMap thv
theorem thc_snoc (xs : List Th) (x : Th) : thc xs ++ thv x = thc (xs ++ [x]) := by unfold thc; rw [List.flatMap_append]; rfl
theorem RowN.irt {w : World} {base : Nat} {A : Option Addr} {n c : Nat} {xs : List Th} (h : RowN w base 46 3 A n c (thc xs)) (hn : xs.length = n) : IRt w A xs := fun k x hx => by
  have hk := (List.getElem?_eq_some_iff.1 hx).1
  obtain ⟨g, rfl, h1⟩ := h.at (by omega)
  have hc : ∀ j, j < 3 → w.cell? ⟨g, k * 3 + j, none⟩ = (thv x)[j]? := fun j hj => by
    rw [(h1 (k * 3 + j)).2 (by omega)]
    exact flat3 thv (fun _ => rfl) xs k x hx j hj
  refine ⟨g, 0, rfl, (h.lt _ rfl).2, ?_, ?_, ?_⟩
  · rw [Nat.zero_add]; exact hc 0 (by decide)
  · rw [Nat.zero_add]; exact hc 1 (by decide)
  · rw [Nat.zero_add]; exact hc 2 (by decide)
/-- What source i has in the law: it rises, and says where it comes from. -/
structure LOk (i : Nat) (l : List Th) : Prop where
  src : ∀ y, y ∈ l → y.2.1 = (i : Int) ∧ 0 ≤ y.1
  srt : l.Pairwise (fun a b => a.1 ≤ b.1 ∧ a.2.2 < b.2.2)
theorem LOk.nil (i : Nat) : LOk i [] := ⟨fun y h => (by cases h), List.Pairwise.nil⟩
theorem LOk.snoc {i k : Nat} {l : List Th} {x x' : Int} (h : LOk i l) (hx : ∀ y, y ∈ l → y.1 ≤ x ∧ y.2.2 < (k : Int)) (h0 : 0 ≤ x') (hle : x ≤ x') : LOk i (l ++ [(x', (i : Int), (k : Int))]) := by
  refine ⟨fun y hy => ?_, ?_⟩
  · rcases List.mem_append.1 hy with q | q
    · exact h.src y q
    · rw [List.mem_singleton.1 q]; exact ⟨rfl, h0⟩
  · rw [List.pairwise_append]
    refine ⟨h.srt, List.pairwise_singleton _ _, fun a ha b hb => ?_⟩
    rw [List.mem_singleton.1 hb]
    have := hx a ha
    exact ⟨by show a.1 ≤ x'; omega, this.2⟩
theorem LOk.top {i k : Nat} {l : List Th} {x x' : Int} (hx : ∀ y, y ∈ l → y.1 ≤ x ∧ y.2.2 < (k : Int)) (hle : x ≤ x') : ∀ y, y ∈ l ++ [(x', (i : Int), (k : Int))] → y.1 ≤ x' ∧ y.2.2 < ((k + 1 : Nat) : Int) := fun y hy => by
  rcases List.mem_append.1 hy with q | q
  · have := hx y q; omega
  · rw [List.mem_singleton.1 q]; exact ⟨Int.le_refl _, by show (k : Int) < _; omega⟩
/-- u comes behind t. -/
def After (t u : Th) : Prop := t.1 < u.1 ∨ t.1 = u.1 ∧ (t.2.1 < u.2.1 ∨ t.2.1 = u.2.1 ∧ t.2.2 < u.2.2)
structure OrdT (R : List (List Th)) (t : Th) : Prop where
  ok : ∀ (j : Nat) (u : List Th), R[j]? = some u → LOk j u
  aft : ∀ (j : Nat) (u : List Th) (y : Th), R[j]? = some u → y ∈ u → After t y
theorem OrdT.start {R : List (List Th)} (h : ∀ (j : Nat) (u : List Th), R[j]? = some u → LOk j u) : OrdT R (-1, 0, 0) :=
  ⟨h, fun j u y hj hy => Or.inl (by have := ((h j u hj).src y hy).2; show (-1 : Int) < _; omega)⟩
theorem thd_at {R : List (List Th)} {i : Nat} {x : Th} {u : List Th} (h : R[i]? = some (x :: u)) : tkey R i = x.1 ∧ tlive R i = true := by
  unfold tkey thd tlive
  rw [List.getD_eq_getElem?_getD, h]
  exact ⟨rfl, rfl⟩
theorem OrdT.next {R : List (List Th)} {t x : Th} {u : List Th} {i : Nat} (h : OrdT R t) (hb : Best (tkey R) (tlive R) R.length i) (hi : R[i]? = some (x :: u)) : After t x ∧ x.2.1 = (i : Int) ∧ OrdT (R.set i u) x := by
  have hx := h.ok i _ hi
  have hp := List.pairwise_cons.1 hx.srt
  have e := thd_at hi
  have sx := (hx.src x (List.mem_cons_self ..)).1
  refine ⟨h.aft i _ x hi (List.mem_cons_self ..), sx, ⟨fun j v hj => ?_, fun j v y hj hy => ?_⟩⟩
  · rw [List.getElem?_set] at hj
    by_cases q : i = j
    · subst q
      rw [if_pos rfl, if_pos hb.1] at hj
      injection hj with hj
      subst hj
      exact ⟨fun y hy => hx.src y (List.mem_cons_of_mem _ hy), hp.2⟩
    · rw [if_neg q] at hj
      exact h.ok j v hj
  · rw [List.getElem?_set] at hj
    by_cases q : i = j
    · subst q
      rw [if_pos rfl, if_pos hb.1] at hj
      injection hj with hj
      subst hj
      have h1 := hp.1 y hy
      have h2 := (hx.src y (List.mem_cons_of_mem _ hy)).1
      rcases Int.lt_or_le x.1 y.1 with c | c
      · exact Or.inl c
      · exact Or.inr ⟨by omega, Or.inr ⟨by rw [sx, h2], h1.2⟩⟩
    · rw [if_neg q] at hj
      have hjl := (List.getElem?_eq_some_iff.1 hj).1
      have hy2 := (h.ok j v hj).src y hy
      rcases v with _ | ⟨z, v⟩
      · cases hy
      have ez := thd_at hj
      have hpz := List.pairwise_cons.1 (h.ok j _ hj).srt
      have hzy : z.1 ≤ y.1 := by
        rcases List.mem_cons.1 hy with c | c
        · rw [c]; exact Int.le_refl _
        · exact (hpz.1 y c).1
      have h3 := hb.2.2.1 j hjl ez.2
      rw [e.1, ez.1] at h3
      rcases Int.lt_or_le x.1 y.1 with c | c
      · exact Or.inl c
      · refine Or.inr ⟨by omega, Or.inl ?_⟩
        rw [sx, hy2.1]
        rcases Nat.lt_or_ge j i with d | d
        · have h4 := hb.2.2.2 j d ez.2
          rw [e.1, ez.1] at h4
          omega
        · omega
def tsum (R : List (List Th)) : Nat := (R.map List.length).sum
theorem tsum_set : ∀ (R : List (List Th)) (i : Nat) (x : Th) (u : List Th), R[i]? = some (x :: u) → tsum (R.set i u) + 1 = tsum R
  | [], i, x, u, h => by simp at h
  | a :: R, 0, x, u, h => by
    have h : a = x :: u := by simpa using h
    subst h
    unfold tsum
    simp
    omega
  | a :: R, i + 1, x, u, h => by
    have ih := tsum_set R i x u (by simpa using h)
    unfold tsum at ih ⊢
    rw [List.set_cons_succ, List.map_cons, List.map_cons, List.sum_cons, List.sum_cons]
    omega
theorem tsum_zero : ∀ R : List (List Th), tsum R = 0 ↔ tlives R = 0
  | [] => ⟨fun _ => rfl, fun _ => rfl⟩
  | a :: R => by
    have ih := tsum_zero R
    unfold tsum tlives at ih ⊢
    rw [List.map_cons, List.sum_cons, List.filter_cons]
    cases a with
    | nil => simpa using ih
    | cons x u => simp
theorem tsum_snoc (ss : List Tr) (s : Tr) : tsum ((ss ++ [s]).map Tr.l) = tsum (ss.map Tr.l) + s.l.length := by
  unfold tsum
  simp
/-- LoserEven's sources, i of them made. -/
structure EvI (w0 wr : World) (i : Nat) (Af : Option Addr) (cf : Nat) (ss : List Tr) : Prop where
  len : ss.length = i
  row : RowA wr 47 Af cf (ss.map Tr.v)
  ok : TrsOk wr.heap.size ss
  srs : Trs wr 0 ss (List.replicate i 0) (fun _ _ => 0)
  lok : ∀ (j : Nat) (s : Tr), ss[j]? = some s → LOk j s.l
  own : ∀ k, SBt ss k → w0.heap.size ≤ k
  far : ∀ a, Af = some a → ¬ SBt ss a.block ∧ w0.heap.size ≤ a.block
theorem EvI.step {w0 wr v w4 : World} {i cf c4 : Nat} {Af A4 : Option Addr} {ss : List Tr} {s : Tr} (h : EvI w0 wr i Af cf ss) (h0 : w0.heap.size ≤ wr.heap.size) (bv : Below wr.heap.size wr v) (ta : TrAt v s 0) (l1 : LOk i s.l) (b1 : wr.heap.size ≤ s.bt) (b2 : wr.heap.size ≤ s.bl) (b3 : s.bt ≠ s.bl) (b4 : ∀ a, s.On a → wr.heap.size ≤ a.block ∧ a.block ≠ s.bt) (o : Obj)
    (K4 : Keep (Of Af) (v.alloc o) w4) (F4 : A4 = Af ∨ ∃ g, A4 = some ⟨g, 0, none⟩ ∧ (v.alloc o).heap.size ≤ g) (R4 : RowA w4 47 A4 c4 (ss.map Tr.v ++ [Tr.v s])) : EvI w0 w4 (i + 1) A4 c4 (ss ++ [s]) := by
  have hsv := bv.size
  have hso : (v.alloc o).heap.size = v.heap.size + 1 := World.size_alloc _ _
  have hs4 : v.heap.size + 1 ≤ w4.heap.size := by have := K4.size; omega
  have al : Below v.heap.size v (v.alloc o) := (Below.refl _ _).alloc (Nat.le_refl _) _
  have AfB : ∀ a, Af = some a → a.block < wr.heap.size := fun a ha => h.row.lt a ha
  have kv : ∀ k, k < v.heap.size → (∀ a, Af = some a → a.block ≠ k) → w4.heap[k]? = v.heap[k]? := fun k hk hn => by
    rw [K4.block k (by omega) (fun ⟨a, ha, e⟩ => hn a ha e.symm), al.block k hk]
  have onA : ∀ a, s.On a → wr.heap.size ≤ a.block ∧ a.block < v.heap.size := fun a ha => by
    refine ⟨(b4 a ha).1, ?_⟩
    obtain ⟨x, r, e9⟩ : ∃ x r, s.l = x :: r := by
      cases hq : s.l with
      | nil => exact absurd hq ha.1
      | cons x r => exact ⟨x, r, rfl⟩
    obtain ⟨g, o9, q1, q2, _⟩ := ta.rd 0 x (by rw [e9]; rfl)
    rw [ha.2] at q1; injection q1 with q1; subst q1; exact q2
  have hlt := ta.lt
  have nsb : ∀ k, SBt (ss ++ [s]) k → SBt ss k ∨ (wr.heap.size ≤ k ∧ k < v.heap.size) := fun k ⟨j, s', hj, e⟩ => by
    rcases snoc_at hj with ⟨q, _⟩ | ⟨_, rfl⟩
    · exact Or.inl ⟨j, s', q, e⟩
    · rcases e with e | e | ⟨a, ha, e⟩
      · omega
      · omega
      · have := onA a ha; omega
  refine ⟨by rw [List.length_append, h.len]; rfl, by rw [List.map_append]; exact R4, ?_, ?_, fun j s' hj => ?_, fun k hk => ?_, fun a ha => ?_⟩
  · exact h.ok.snoc (by omega) ⟨b1, by omega⟩ ⟨b2, by omega⟩ b3 (fun a ha => ⟨(b4 a ha).1, by have := onA a ha; omega, (b4 a ha).2⟩)
  · have e : List.replicate (i + 1) (0 : Nat) = List.replicate i 0 ++ [0] := List.replicate_succ'
    rw [e]
    refine (h.srs.stay (fun k hk => ?_) (by omega)).snoc (ta.same (kv _ hlt.1 (fun a ha => by have := AfB a ha; omega)) (kv _ hlt.2 (fun a ha => by have := AfB a ha; omega)) (fun a ha => kv _ (onA a ha).2 (fun a' ha' => by have := AfB a' ha'; have := onA a ha; omega)) (by omega))
    have hk2 := h.ok.sb k hk
    rw [kv k (by omega) (fun a ha e => (h.far a ha).1 (e ▸ hk)), bv.block k hk2]
  · rcases snoc_at hj with ⟨q, _⟩ | ⟨q', rfl⟩
    · exact h.lok j s' q
    · rw [q', h.len]; exact l1
  · rcases nsb k hk with q | q
    · exact h.own k q
    · omega
  · rcases F4 with e | ⟨g', e, hg⟩
    · rw [e] at ha
      have h1 := AfB a ha
      refine ⟨fun q => ?_, (h.far a ha).2⟩
      rcases nsb _ q with q | q
      · exact (h.far a ha).1 q
      · omega
    · rw [e] at ha
      injection ha with ha
      subst ha
      refine ⟨fun q => ?_, by show _ ≤ g'; omega⟩
      rcases nsb _ q with q | q
      · have := h.ok.sb _ q
        have q2 : g' < wr.heap.size := this
        omega
      · have q2 : g' < v.heap.size := q.2
        omega
end Go.Proofs.Ytimfmflnaehmgaa
