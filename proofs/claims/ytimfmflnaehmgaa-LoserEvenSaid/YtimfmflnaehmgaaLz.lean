/-
  Sources that a law makes, one behind the other; Same at ints.
-/
import Derived.Test.YtimfmflnaehmgaaLo
namespace Go.Proofs.Ytimfmflnaehmgaa
set_option linter.unusedVariables false
set_option linter.unusedSimpArgs false
set_option maxRecDepth 100000
open Go.RowKit

theorem source_new (A : Option Addr) (n c pg po : Nat) (w : World) :
    Calls Try.prog 9 #[.slice A n c, .pointer (some ⟨pg, po, none⟩)] w fun e w' =>
      e = .returned (.func (.func 23) #[] #[.pointer (some ⟨w.heap.size + 1, 0, none⟩), .pointer (some ⟨w.heap.size + 2, 0, none⟩), .pointer (some ⟨w.heap.size, 0, none⟩)]) ∧ w'.heap.size = w.heap.size + 3 ∧
      Arr w' (w.heap.size + 1) 28 [.pointer (some ⟨pg, po, none⟩)] ∧ Arr w' (w.heap.size + 2) 3 [.int .i64 0] ∧ Arr w' w.heap.size 27 [.slice A n c] ∧ Below w.heap.size w w' := by
  go_enter Try.func9, Try.ntmps9
  go_wp2
  go_ret
  have al : ∀ (W : World) (o : Obj), Below W.heap.size W (W.alloc o) := fun W o => (Below.refl _ _).alloc (Nat.le_refl _) _
  exact ⟨rfl, by simp, Arr.below (arr_new _ _ _ [_] (by simp)) (al _ _), arr_new _ _ _ [_] (by simp), Arr.below (Arr.below (arr_new _ _ _ [_] rfl) (al _ _)) (al _ _), below_alloc (below_alloc (below_alloc (Below.refl _ _) _) _) _⟩
theorem source_at (A : Option Addr) (n c pg po ba bt bl : Nat) (w : World) (h1 : bl = w.heap.size) (h2 : ba = w.heap.size + 1) (h3 : bt = w.heap.size + 2) :
    Calls Try.prog 9 #[.slice A n c, .pointer (some ⟨pg, po, none⟩)] w fun e w' =>
      e = .returned (.func (.func 23) #[] #[.pointer (some ⟨ba, 0, none⟩), .pointer (some ⟨bt, 0, none⟩), .pointer (some ⟨bl, 0, none⟩)]) ∧ w'.heap.size = w.heap.size + 3 ∧
      Arr w' ba 28 [.pointer (some ⟨pg, po, none⟩)] ∧ Arr w' bt 3 [.int .i64 0] ∧ Arr w' bl 27 [.slice A n c] ∧ Below w.heap.size w w' := by
  subst h1 h2 h3
  exact source_new A n c pg po w
/-- Blocks that the sources stand on. -/
def SB (ss : List Sr) (k : Nat) : Prop := ∃ (i : Nat) (s : Sr), ss[i]? = some s ∧ (k = s.ba ∨ k = s.bt ∨ k = s.bl ∨ k = s.pg ∨ ∃ a, s.On a ∧ k = a.block)
theorem Srs.stay {w w' : World} {N : Nat} {ss : List Sr} {ps : List Nat} {q : Nat → Nat → Int} (h : Srs w N ss ps q) (k : ∀ b, SB ss b → w'.heap[b]? = w.heap[b]?) (hs : w.heap.size ≤ w'.heap.size) : Srs w' N ss ps q :=
  ⟨h.len, fun i s p hi hp => (h.each i s p hi hp).same (k _ ⟨i, s, hi, Or.inl rfl⟩) (k _ ⟨i, s, hi, Or.inr (Or.inl rfl)⟩) (k _ ⟨i, s, hi, Or.inr (Or.inr (Or.inl rfl))⟩) (fun a ha => k _ ⟨i, s, hi, Or.inr (Or.inr (Or.inr (Or.inr ⟨a, ha, rfl⟩)))⟩) hs, fun i s hi => by
    have c := h.cnt i s hi
    have kk := k s.pg ⟨i, s, hi, Or.inr (Or.inr (Or.inr (Or.inl rfl)))⟩
    exact ⟨by rw [World.cell?_of_block (w := w) (a := ⟨s.pg, s.po, none⟩) kk]; exact c.1, by rw [World.frozen?_of_block (w := w) (a := ⟨s.pg, s.po, none⟩) kk]; exact c.2.1, c.2.2⟩⟩
theorem SrsOk.nil (B : Nat) : SrsOk B [] := ⟨fun i s h => by simp at h, fun i j s s' h => by simp at h, fun i j s s' h => by simp at h, fun i j s s' h => by simp at h⟩
theorem Srs.nil (w : World) (N : Nat) (q : Nat → Nat → Int) : Srs w N [] [] q := ⟨rfl, fun i s p h => by simp at h, fun i s h => by simp at h⟩
theorem SrsOk.sb {B : Nat} {ss : List Sr} (h : SrsOk B ss) (k : Nat) (hk : SB ss k) : k < B := by
  obtain ⟨i, s, hs, e⟩ := hk
  have := h.low i s hs
  rcases e with rfl | rfl | rfl | rfl | ⟨a, ha, rfl⟩
  · omega
  · omega
  · omega
  · omega
  · exact this.2.2.2.2 a ha
theorem snoc_at {α : Type} {l : List α} {x y : α} {i : Nat} (h : (l ++ [x])[i]? = some y) : (l[i]? = some y ∧ i < l.length) ∨ (i = l.length ∧ y = x) := by
  rcases Nat.lt_or_ge i l.length with e | e
  · rw [List.getElem?_append_left e] at h; exact Or.inl ⟨h, e⟩
  · rw [List.getElem?_append_right e] at h
    have : i - l.length = 0 := by
      rcases Nat.eq_zero_or_pos (i - l.length) with q | q
      · exact q
      · rw [List.getElem?_eq_none (by simp; omega)] at h; cases h
    rw [this] at h
    have h : x = y := by simpa using h
    exact Or.inr ⟨by omega, h.symm⟩
/-- One source more, its variables in new blocks. -/
theorem SrsOk.snoc {B B' : Nat} {ss : List Sr} {s : Sr} (h : SrsOk B ss) (hB : B ≤ B') (f1 : B ≤ s.ba ∧ s.ba < B') (f2 : B ≤ s.bt ∧ s.bt < B') (f3 : B ≤ s.bl ∧ s.bl < B') (n1 : s.bt ≠ s.ba ∧ s.bt ≠ s.bl) (f4 : s.pg < B') (n2 : s.pg ≠ s.ba ∧ s.pg ≠ s.bl ∧ s.pg ≠ s.bt)
    (f5 : ∀ a, s.On a → a.block < B' ∧ a.block ≠ s.bt ∧ a.block ≠ s.pg ∧ ∀ (i : Nat) (s' : Sr), ss[i]? = some s' → a.block ≠ s'.bt ∧ a.block ≠ s'.pg)
    (f6 : ∀ (i : Nat) (s' : Sr), ss[i]? = some s' → s.pg ≠ s'.ba ∧ s.pg ≠ s'.bl ∧ s.pg ≠ s'.bt ∧ (∀ a, s'.On a → a.block ≠ s.pg)) (f7 : ∀ (i : Nat) (s' : Sr), ss[i]? = some s' → s'.pg ≠ s.ba ∧ s'.pg ≠ s.bl ∧ s'.pg ≠ s.bt) : SrsOk B' (ss ++ [s]) := by
  have lowS : ∀ (i : Nat) (s' : Sr), ss[i]? = some s' → s'.ba < B ∧ s'.bt < B ∧ s'.bl < B ∧ s'.pg < B ∧ ∀ a, s'.On a → a.block < B := h.low
  refine ⟨fun i s' hi => ?_, fun i j s1 s2 hi hj hne => ?_, fun i j s1 s2 hi hj => ?_, fun i j s1 s2 hi hj => ?_⟩
  · rcases snoc_at hi with ⟨q, _⟩ | ⟨_, rfl⟩
    · obtain ⟨a, b, c, d, e⟩ := lowS i s' q
      exact ⟨by omega, by omega, by omega, by omega, fun x hx => by have := e x hx; omega⟩
    · exact ⟨f1.2, f2.2, f3.2, f4, fun a ha => (f5 a ha).1⟩
  · rcases snoc_at hi with ⟨q, q'⟩ | ⟨q', rfl⟩
    · rcases snoc_at hj with ⟨r, r'⟩ | ⟨r', rfl⟩
      · exact h.one i j s1 s2 q r hne
      · have := (lowS i s1 q).2.1; omega
    · rcases snoc_at hj with ⟨r, r'⟩ | ⟨r', rfl⟩
      · have := (lowS j s2 r).2.1; omega
      · omega
  · rcases snoc_at hi with ⟨q, q'⟩ | ⟨q', rfl⟩
    · rcases snoc_at hj with ⟨r, r'⟩ | ⟨r', rfl⟩
      · exact h.at_ i j s1 s2 q r
      · have l1 := lowS i s1 q
        exact ⟨by omega, by omega, Ne.symm (f6 i s1 q).2.2.1, fun a ha => ((f5 a ha).2.2.2 i s1 q).1⟩
    · rcases snoc_at hj with ⟨r, r'⟩ | ⟨r', rfl⟩
      · have l2 := lowS j s2 r
        exact ⟨by omega, by omega, by omega, fun a ha => by have := l2.2.2.2.2 a ha; omega⟩
      · exact ⟨n1.1, n1.2, Ne.symm n2.2.2, fun a ha => (f5 a ha).2.1⟩
  · rcases snoc_at hi with ⟨q, q'⟩ | ⟨q', rfl⟩
    · rcases snoc_at hj with ⟨r, r'⟩ | ⟨r', rfl⟩
      · exact h.ask i j s1 s2 q r
      · exact ⟨(f7 i s1 q).1, (f7 i s1 q).2.1, fun a ha => ((f5 a ha).2.2.2 i s1 q).2⟩
    · rcases snoc_at hj with ⟨r, r'⟩ | ⟨r', rfl⟩
      · exact ⟨(f6 j s2 r).1, (f6 j s2 r).2.1, (f6 j s2 r).2.2.2⟩
      · exact ⟨n2.1, n2.2.1, fun a ha => (f5 a ha).2.2.1⟩
theorem Srs.snoc {w : World} {N : Nat} {ss : List Sr} {ps : List Nat} {q : Nat → Nat → Int} {s : Sr} (h : Srs w N ss ps q) (a : SrAt w s 0) (c : w.cell? ⟨s.pg, s.po, none⟩ = some (.int .i64 (q s.pg s.po)) ∧ w.frozen? ⟨s.pg, s.po, none⟩ = false ∧ 0 ≤ q s.pg s.po ∧ q s.pg s.po ≤ N) : Srs w N (ss ++ [s]) (ps ++ [0]) q := by
  refine ⟨by rw [List.length_append, List.length_append, h.len]; rfl, fun i s' p hi hp => ?_, fun i s' hi => ?_⟩
  · rcases snoc_at hi with ⟨r, r'⟩ | ⟨r', rfl⟩
    · rcases snoc_at hp with ⟨t, _⟩ | ⟨t', rfl⟩
      · exact h.each i s' p r t
      · have := h.len; omega
    · rcases snoc_at hp with ⟨t, t'⟩ | ⟨t', rfl⟩
      · have := h.len; omega
      · exact a
  · rcases snoc_at hi with ⟨r, r'⟩ | ⟨r', rfl⟩
    · exact h.cnt i s' r
    · exact c
theorem IRz.below {w w' : World} {A : Option Addr} {xs : List Int} (h : IRz w A xs) (b : Below w.heap.size w w') : IRz w' A xs := fun k x hx => by
  obtain ⟨b', o, h1, h2, h3⟩ := h k x hx
  exact ⟨b', o, h1, Nat.lt_of_lt_of_le h2 b.size, by rw [b.cell (p := ⟨b', o + k, none⟩) h2]; exact h3⟩
def iv (xs : List Int) : List Value := xs.map (Value.int .i64)
theorem iv_len (xs : List Int) : (iv xs).length = xs.length := by unfold iv; rw [List.length_map]
theorem iv_at {xs : List Int} {k : Nat} {x : Int} (h : xs[k]? = some x) : (iv xs)[k]? = some (.int .i64 x) := by unfold iv; rw [List.getElem?_map, h]; rfl
theorem iv_one (xs : List Int) (u : Value) (h : u ∈ iv xs) : u.oneCell' = true := by
  unfold iv at h
  obtain ⟨x, _, rfl⟩ := List.mem_map.1 h
  rfl
theorem RowA.irz {w : World} {e : TypeId} {A : Option Addr} {c : Nat} {xs : List Int} (h : RowA w e A c (iv xs)) : IRz w A xs := fun k x hx => by
  have hk := (List.getElem?_eq_some_iff.1 hx).1
  obtain ⟨g, rfl, h1⟩ := h.at (by rw [iv_len]; omega)
  refine ⟨g, 0, rfl, h.lt _ rfl, ?_⟩
  rw [Nat.zero_add, (h1 k).2 (by rw [iv_len]; exact hk)]
  exact iv_at hx
theorem Arr.irz {w : World} {g : Nat} {xs : List Int} {t : TypeId} (h : Arr w g t (iv xs)) : IRz w (some ⟨g, 0, none⟩) xs := fun k x hx => ⟨g, 0, rfl, Arr.lt h, by rw [Nat.zero_add, Arr.cell h]; exact iv_at hx⟩
set_option maxHeartbeats 400000 in
theorem isame_rz (A B : Option Addr) (n c c' : Nat) (xs : List Int) (w : World) (hn : n ≤ 1000000) (hl : xs.length = n) (hA : IRz w A xs) (hB : IRz w B xs) :
    Calls Try.prog 12 #[.slice A n c, .slice B n c'] w fun e w' => e = .returned (.bool true) ∧ Below w.heap.size w w' := by
  have HL := Lib.hid hl
  clear hl
  have HA := Lib.hid hA; have HB := Lib.hid hB
  clear hA hB
  go_enter Try.func12, Try.ntmps12
  go_wp2
  go_loopw [5] (fun i wr => ∃ k : Nat, k ≤ n ∧ i = .int .i64 k ∧ Below w.heap.size w wr) (fun i _ => n - (intOf i).toNat)
  case atStart => exact ⟨0, Nat.zero_le _, rfl, Below.refl _ _⟩
  case round =>
    obtain ⟨k, hk, rfl, hb⟩ := hrel
    by_cases hlt : k < n
    · obtain ⟨v, hv⟩ : ∃ v, xs[k]? = some v := ⟨_, List.getElem?_eq_getElem (by rw [HL.out]; exact hlt)⟩
      obtain ⟨b1, o1, rfl, hl1, z1⟩ := HA.out.below hb k v hv
      obtain ⟨b2, o2, rfl, hl2, z2⟩ := HB.out.below hb k v hv
      have HB2 := Lib.hid hb
      clear hv hb
      go_wp2
      go_quiet (fail)
      go_wp2
      go_roundw
      case rel => exact ⟨k + 1, by omega, by go_num, bstep HB2.out (belowN _ _)⟩
      case measure => simp [intOf]; omega
    · go_wp2
      go_ret
      exact ⟨rfl, hb⟩
end Go.Proofs.Ytimfmflnaehmgaa
