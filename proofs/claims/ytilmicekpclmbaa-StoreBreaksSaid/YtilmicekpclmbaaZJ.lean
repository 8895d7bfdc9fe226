/-
  A contract of the book's Same for bytes: of two slices that hold the same bytes it returns true; nothing that was in memory turns.
  A contract of the book's Same for bytes: of two slices as long it says whether they hold the same bytes; nothing that was in memory turns.
  A contract of the book's Same for ints: of two slices that hold the same numbers it returns true.
  One disk in a law's memory: what each call of it makes of it, and of other blocks of the law's own. Over the contracts of package disk (DA).
-/
import Derived.Test.YtilmicekpclmbaaZb
import Derived.WalkSpells
import Derived.WalkLawsBesides
import Derived.Deep.QuietTactic
import Derived.BigQuiet
import Derived.Test.YtilmicekpclmbaaZw
import Derived.Test.YtilmicekpclmbaaZk
import Derived.WalkSmall
namespace Go.Proofs.Ytilmicekpclmbaa
set_option linter.unusedVariables false
set_option linter.unusedSimpArgs false
open Go.RowKit

set_option maxHeartbeats 400000 in
theorem bsame_yes (N : Nat) (A B : Option Addr) (n c c' : Nat) (xs : List Int) (w : World) (hn : n ≤ 4611686018427387904) (hl : xs.length = n) (hA : RdB w N A xs) (hB : RdB w N B xs) (hN : N ≤ w.heap.size) :
    Calls Try.prog 17 #[.slice A n c, .slice B n c'] w fun e w' => e = .returned (.bool true) ∧ Below w.heap.size w w' := by
  have HL := Lib.hid hl
  clear hl
  go_enter Try.func17, Try.ntmps17
  go_wp2
  go_loopw [5] (fun i wr => ∃ k : Nat, k ≤ n ∧ i = .int .i64 k ∧ Below w.heap.size w wr) (fun i _ => n - (intOf i).toNat)
  case atStart => exact ⟨0, Nat.zero_le _, rfl, Below.refl _ _⟩
  case round =>
    obtain ⟨k, hk, rfl, hb⟩ := hrel
    by_cases hlt : k < n
    · obtain ⟨b1, o1, rfl, hl1, hc1, _⟩ := hA k (by rw [HL.out]; exact hlt)
      obtain ⟨b2, o2, rfl, hl2, hc2, _⟩ := hB k (by rw [HL.out]; exact hlt)
      have z1 : wr.cell? ⟨b1, o1 + k, none⟩ = some (.int .u8 (xs.getD k 0)) := by rw [hb.cell (p := ⟨b1, o1 + k, none⟩) (Nat.lt_of_lt_of_le hl1 hN)]; exact hc1
      have z2 : wr.cell? ⟨b2, o2 + k, none⟩ = some (.int .u8 (xs.getD k 0)) := by rw [hb.cell (p := ⟨b2, o2 + k, none⟩) (Nat.lt_of_lt_of_le hl2 hN)]; exact hc2
      generalize xs.getD k 0 = v at z1 z2
      have HA := Lib.hid hA; have HB := Lib.hid hB
      clear hA hB hc1 hc2
      go_wp2
      go_quiet (fail)
      go_wp2
      go_roundw
      case rel => exact ⟨k + 1, by omega, by go_num, below_drewN hb _⟩
      case measure => simp [intOf]; omega
    · go_wp2
      go_ret
      exact ⟨rfl, hb⟩
end Go.Proofs.Ytilmicekpclmbaa
namespace Go.Proofs.Ytilmicekpclmbaa
set_option linter.unusedVariables false
set_option linter.unusedSimpArgs false
open Go.RowKit

theorem same_dec {xs ys : List Int} {n : Nat} (hx : xs.length = n) (hy : ys.length = n) (h : ∀ k, k < n → xs.getD k 0 = ys.getD k 0) : xs = ys := by
  apply List.ext_getElem?
  intro i
  by_cases hi : i < n
  · have := h i hi
    rw [List.getD_eq_getElem?_getD, List.getD_eq_getElem?_getD, List.getElem?_eq_getElem (by omega), List.getElem?_eq_getElem (by omega)] at this
    rw [List.getElem?_eq_getElem (by omega), List.getElem?_eq_getElem (by omega)]
    exact congrArg some this
  · rw [List.getElem?_eq_none (by omega), List.getElem?_eq_none (by omega)]
set_option maxHeartbeats 400000 in
theorem bsame_eq (N : Nat) (A B : Option Addr) (n c c' : Nat) (xs ys : List Int) (w : World) (hn : n ≤ 4611686018427387904) (hl : xs.length = n) (hl' : ys.length = n) (hA : RdB w N A xs) (hB : RdB w N B ys) (hN : N ≤ w.heap.size) :
    Calls Try.prog 17 #[.slice A n c, .slice B n c'] w fun e w' => e = .returned (.bool (decide (xs = ys))) ∧ Below w.heap.size w w' := by
  have HL := Lib.hid hl; have HL' := Lib.hid hl'
  clear hl hl'
  go_enter Try.func17, Try.ntmps17
  go_wp2
  go_loopw [5] (fun i wr => ∃ k : Nat, k ≤ n ∧ i = .int .i64 k ∧ (∀ j, j < k → xs.getD j 0 = ys.getD j 0) ∧ Below w.heap.size w wr) (fun i _ => n - (intOf i).toNat)
  case atStart => exact ⟨0, Nat.zero_le _, rfl, fun j hj => by omega, Below.refl _ _⟩
  case round =>
    obtain ⟨k, hk, rfl, hall, hb⟩ := hrel
    have HALL := Lib.hid hall
    clear hall
    by_cases hlt : k < n
    · obtain ⟨b1, o1, rfl, hl1, hc1, u1⟩ := hA k (by rw [HL.out]; exact hlt)
      obtain ⟨b2, o2, rfl, hl2, hc2, u2⟩ := hB k (by rw [HL'.out]; exact hlt)
      have z1 : wr.cell? ⟨b1, o1 + k, none⟩ = some (.int .u8 (xs.getD k 0)) := by rw [hb.cell (p := ⟨b1, o1 + k, none⟩) (Nat.lt_of_lt_of_le hl1 hN)]; exact hc1
      have z2 : wr.cell? ⟨b2, o2 + k, none⟩ = some (.int .u8 (ys.getD k 0)) := by rw [hb.cell (p := ⟨b2, o2 + k, none⟩) (Nat.lt_of_lt_of_le hl2 hN)]; exact hc2
      have HA := Lib.hid hA; have HB := Lib.hid hB
      clear hA hB hc1 hc2 u1 u2
      by_cases he : xs.getD k 0 = ys.getD k 0
      · have HN : Hid (∀ j, j < k + 1 → xs.getD j 0 = ys.getD j 0) := Lib.hid (fun j hj => by
          by_cases hjk : j = k
          · rw [hjk]; exact he
          · exact HALL.out j (by omega))
        rw [he] at z1
        clear he
        generalize ys.getD k 0 = v at z1 z2
        go_wp2
        go_quiet (fail)
        go_wp2
        go_roundw
        case rel => exact ⟨k + 1, by omega, by go_num, HN.out, below_drewN hb _⟩
        case measure => simp [intOf]; omega
      · have HG : Hid (decide (xs = ys) = false) := Lib.hid (by rw [decide_eq_false_iff_not]; exact fun e => he (by rw [e]))
        have t1 : (xs.getD k 0 != ys.getD k 0) = true := by simpa using he
        have t2 : (xs.getD k 0 == ys.getD k 0) = false := by simpa using he
        clear he
        generalize xs.getD k 0 = v at z1 t1 t2
        generalize ys.getD k 0 = u at z2 t1 t2
        go_wp2
        go_quiet (fail)
        go_wp2
        go_ret
        exact ⟨by rw [HG.out]; rfl, below_drewN hb _⟩
    · obtain rfl : k = n := by omega
      have HG : Hid (decide (xs = ys) = true) := Lib.hid (by rw [decide_eq_true_eq]; exact same_dec HL.out HL'.out HALL.out)
      go_wp2
      go_ret
      exact ⟨by rw [HG.out]; rfl, hb⟩
end Go.Proofs.Ytilmicekpclmbaa
namespace Go.Proofs.Ytilmicekpclmbaa
set_option linter.unusedVariables false
set_option linter.unusedSimpArgs false
open Go.RowKit

set_option maxHeartbeats 400000 in
theorem isame_yes (N : Nat) (A B : Option Addr) (n c c' : Nat) (xs : List Int) (w : World) (hn : n ≤ 4611686018427387904) (hl : xs.length = n) (hA : IR w N A xs) (hB : IR w N B xs) (hN : N ≤ w.heap.size) :
    Calls Try.prog 16 #[.slice A n c, .slice B n c'] w fun e w' => e = .returned (.bool true) ∧ Below w.heap.size w w' := by
  have HL := Lib.hid hl
  clear hl
  go_enter Try.func16, Try.ntmps16
  go_wp2
  go_loopw [5] (fun i wr => ∃ k : Nat, k ≤ n ∧ i = .int .i64 k ∧ Below w.heap.size w wr) (fun i _ => n - (intOf i).toNat)
  case atStart => exact ⟨0, Nat.zero_le _, rfl, Below.refl _ _⟩
  case round =>
    obtain ⟨k, hk, rfl, hb⟩ := hrel
    by_cases hlt : k < n
    · obtain ⟨b1, o1, rfl, hl1, hc1, _⟩ := hA k (by rw [HL.out]; exact hlt)
      obtain ⟨b2, o2, rfl, hl2, hc2, _⟩ := hB k (by rw [HL.out]; exact hlt)
      have z1 : wr.cell? ⟨b1, o1 + k, none⟩ = some (.int .i64 (iAt xs k)) := by rw [hb.cell (p := ⟨b1, o1 + k, none⟩) (Nat.lt_of_lt_of_le hl1 hN)]; exact hc1
      have z2 : wr.cell? ⟨b2, o2 + k, none⟩ = some (.int .i64 (iAt xs k)) := by rw [hb.cell (p := ⟨b2, o2 + k, none⟩) (Nat.lt_of_lt_of_le hl2 hN)]; exact hc2
      generalize iAt xs k = v at z1 z2
      have HA := Lib.hid hA; have HB := Lib.hid hB
      clear hA hB hc1 hc2
      go_wp2
      go_quiet (fail)
      go_wp2
      go_roundw
      case rel => exact ⟨k + 1, by omega, by go_num, below_drewN hb _⟩
      case measure => simp [intOf]; omega
    · go_wp2
      go_ret
      exact ⟨rfl, hb⟩
end Go.Proofs.Ytilmicekpclmbaa
namespace Go.Proofs.Ytilmicekpclmbaa
set_option linter.unusedVariables false
set_option linter.unusedSimpArgs false
open Go.RowKit

/-- A disk that was made behind w0; the blocks X are none of its own. -/
def DkIn (w0 w : World) (b : Nat) (s : Dk) (X : List Nat) : Prop :=
  (∃ F, DiskAt w F b s ∧ (∀ k, F k → w0.heap.size ≤ k) ∧ ∀ x, x ∈ X → x < w.heap.size ∧ ¬ F x) ∧ Below w0.heap.size w0 w
/-- These blocks are as they were. -/
def SameX (X : List Nat) (w w' : World) : Prop := ∀ x, x ∈ X → w'.heap[x]? = w.heap[x]?
/-- What a call of a disk leaves. -/
def DkTo (w0 w : World) (b : Nat) (s' : Dk) (X : List Nat) (w' : World) : Prop := DkIn w0 w' b s' X ∧ SameX X w w' ∧ Below w0.heap.size w w'
theorem DkIn.ok {w0 w : World} {b : Nat} {s : Dk} {X : List Nat} (h : DkIn w0 w b s X) : s.Ok := by
  obtain ⟨⟨F, hd, _, _⟩, _⟩ := h
  exact hd.ok
theorem DkIn.of_below {w0 w : World} {b : Nat} {s : Dk} {X : List Nat} (h : DkIn w0 w b s X) : Below w0.heap.size w0 w := h.2
theorem DkIn.below {w0 w w' : World} {b : Nat} {s : Dk} {X : List Nat} (h : DkIn w0 w b s X) (k : Below w.heap.size w w') : DkIn w0 w' b s X := by
  obtain ⟨⟨F, hd, hF, hX⟩, hb⟩ := h
  refine ⟨⟨F, hd.stay (fun j hj => k.block j (hd.lt j hj)), hF, fun x hx => ⟨?_, (hX x hx).2⟩⟩, hb.trans (k.mono hb.size)⟩
  have := (hX x hx).1
  have := k.size
  omega
theorem DkIn.drewN {w0 w : World} {b : Nat} {s : Dk} {X : List Nat} (h : DkIn w0 w b s X) (n : Nat) : DkIn w0 (w.drewN n) b s X := h.below (below_drewN (Below.refl _ _) n)
theorem DkIn.drew {w0 w : World} {b : Nat} {s : Dk} {X : List Nat} (h : DkIn w0 w b s X) : DkIn w0 w.drew b s X := h.below (Below.refl _ _).drew
/-- A new block of the law's own. -/
theorem DkIn.push {w0 w w' : World} {b g : Nat} {s : Dk} {X : List Nat} (h : DkIn w0 w b s X) (k : Below w.heap.size w w') (h1 : w.heap.size ≤ g) (h2 : g < w'.heap.size) : DkIn w0 w' b s (g :: X) := by
  obtain ⟨⟨F, hd, hF, hX⟩, hb⟩ := h
  refine ⟨⟨F, hd.stay (fun j hj => k.block j (hd.lt j hj)), hF, fun x hx => ?_⟩, hb.trans (k.mono hb.size)⟩
  rcases List.mem_cons.1 hx with e | hx
  · subst e
    exact ⟨h2, fun e => by have := hd.lt _ e; omega⟩
  · have h3 := hX x hx
    have := k.size
    exact ⟨by omega, h3.2⟩
theorem DkIn.less {w0 w : World} {b : Nat} {s : Dk} {X Y : List Nat} (h : DkIn w0 w b s X) (k : ∀ y, y ∈ Y → y ∈ X) : DkIn w0 w b s Y := by
  obtain ⟨⟨F, hd, hF, hX⟩, hb⟩ := h
  exact ⟨⟨F, hd, hF, fun x hx => hX x (k x hx)⟩, hb⟩
theorem DkIn.set {w0 w : World} {b g : Nat} {s : Dk} {X : List Nat} (h : DkIn w0 w b s X) (hg : g ∈ X) (h0 : w0.heap.size ≤ g) (o : Nat) (v : Value) : DkIn w0 (w.setCell ⟨g, o, none⟩ v) b s X := by
  obtain ⟨⟨F, hd, hF, hX⟩, hb⟩ := h
  refine ⟨⟨F, hd.stay (fun j hj => Below.heap_setCell _ _ _ _ (fun e => ?_)), hF, fun x hx => ⟨?_, (hX x hx).2⟩⟩, hb.setCell h0 v⟩
  · subst e
    exact (hX _ hg).2 hj
  · have := (hX x hx).1
    simpa [World.setCell] using this
theorem DkTo.of_step {w0 w w' : World} {F : Nat → Prop} {b : Nat} {s' : Dk} {X : List Nat} (hF : ∀ k, F k → w0.heap.size ≤ k) (hX : ∀ x, x ∈ X → x < w.heap.size ∧ ¬ F x) (hb : Below w0.heap.size w0 w) (st : Step F b s' w w') : DkTo w0 w b s' X w' := by
  obtain ⟨F', hd, hk, hs⟩ := st
  have h0 := hb.size
  refine ⟨⟨⟨F', hd, fun k hF' => ?_, fun x hx => ⟨?_, fun e => ?_⟩⟩, hk.below hF hb h0⟩, fun x hx => hk.block x (hX x hx).1 (hX x hx).2, hk.below hF (Below.refl _ _) h0⟩
  · rcases hs k hF' with e | e
    · exact hF k e
    · omega
  · have := (hX x hx).1
    have := hk.size
    omega
  · rcases hs x e with e | e
    · exact (hX x hx).2 e
    · have := (hX x hx).1
      omega

theorem Step.drewN {F : Nat → Prop} {b : Nat} {s : Dk} {w : World} (h : DiskAt w F b s) (m : Nat) : Step F b s w (w.drewN m) :=
  ⟨F, h.stay (fun _ _ => rfl), ⟨rfl, rfl, rfl, Nat.le_refl _, fun _ _ _ => rfl⟩, Sub.refl _ _⟩
theorem in_new (n : Nat) (h1 : 1 ≤ n) (h2 : n ≤ 512) (w : World) : Calls Try.prog 7 #[.int .i64 n] w fun e w' => ∃ b, e = .returned (.pointer (some ⟨b, 0, none⟩)) ∧ DkIn w w' b (Dk.new n) [] := by
  refine (disk_new n h1 h2 w).mono ?_
  rintro e w' ⟨b, F, rfl, hd, hF, hb⟩
  exact ⟨b, rfl, ⟨F, hd, hF, fun x hx => by simp at hx⟩, hb⟩
theorem in_write (w0 : World) (b : Nat) (s : Dk) (X : List Nat) (i c g : Nat) (xs : List Int) (w : World) (h : DkIn w0 w b s X) (hi : i < s.blk.length) (hx : IsBlk xs) (base : Nat) (hr : Own w base g c xs) (hg : g ∈ X) (hw : s.wt.length ≤ 1000000) (hv : s.wrote ≤ 1000000000000) :
    Calls Try.prog 45 #[.pointer (some ⟨b, 0, none⟩), .int .i64 i, .slice (some ⟨g, 0, none⟩) 128 c] w fun e w' => e = .returned (.int .i64 s.says) ∧ DkTo w0 w b (s.write i xs) X w' := by
  obtain ⟨⟨F, hd, hF, hX⟩, hb⟩ := h
  refine (disk_write F b s i c _ _ xs w hd hi hx hr.reads (Nat.le_refl _) (fun a ha => by injection ha with ha; subst ha; exact (hX g hg).2) hw hv).mono ?_
  rintro e w' ⟨rfl, st⟩
  exact ⟨rfl, DkTo.of_step hF hX hb st⟩
theorem in_refuse (w0 : World) (b : Nat) (s : Dk) (X : List Nat) (i : Int) (n c : Nat) (A : Option Addr) (w : World) (h : DkIn w0 w b s X) (h0 : -9223372036854775808 ≤ i) (h1 : i ≤ 9223372036854775807) (hn : n ≤ maxLen) (hi : i < 0 ∨ s.blk.length ≤ i ∨ n ≠ 128) :
    Calls Try.prog 45 #[.pointer (some ⟨b, 0, none⟩), .int .i64 i, .slice A n c] w fun e w' => e = .returned (.int .i64 1) ∧ DkTo w0 w b s X w' := by
  obtain ⟨⟨F, hd, hF, hX⟩, hb⟩ := h
  refine (disk_refuse F b s i n c A w hd h0 h1 hn hi).mono ?_
  rintro e w' ⟨rfl, st⟩
  exact ⟨rfl, DkTo.of_step hF hX hb st⟩
theorem in_flush (w0 : World) (b : Nat) (s : Dk) (X : List Nat) (w : World) (h : DkIn w0 w b s X) (hw : s.wt.length ≤ 1000000) :
    Calls Try.prog 46 #[.pointer (some ⟨b, 0, none⟩)] w fun e w' => e = .returned (.int .i64 s.says) ∧ DkTo w0 w b s.flush X w' := by
  obtain ⟨⟨F, hd, hF, hX⟩, hb⟩ := h
  refine (disk_flush F b s w hd hw).mono ?_
  rintro e w' ⟨rfl, st⟩
  exact ⟨rfl, DkTo.of_step hF hX hb st⟩
/-- What Read leaves: new memory that holds what was read; it is none of the disk's own. -/
def RdTo (w0 w : World) (b : Nat) (s : Dk) (X : List Nat) (xs : List Int) (e : Ending) (w' : World) : Prop :=
  ∃ g c, e = .returned (.tuple #[.slice (some ⟨g, 0, none⟩) 128 c, .bool true]) ∧ Own w' w.heap.size g c xs ∧ DkTo w0 w b s X w' ∧ DkIn w0 w' b s (g :: X)
theorem in_read (w0 : World) (b : Nat) (s : Dk) (X : List Nat) (i : Nat) (xs : List Int) (w : World) (h : DkIn w0 w b s X) (hi : i < s.blk.length) (hx : s.read i = some xs) (hw : s.wt.length ≤ 1000000) :
    Calls Try.prog 52 #[.pointer (some ⟨b, 0, none⟩), .int .i64 i] w (RdTo w0 w b s X xs) := by
  obtain ⟨⟨F, hd, hF, hX⟩, hb⟩ := h
  refine (disk_read F b s i xs w hd hi hx hw).mono ?_
  rintro e w' ⟨g, c, rfl, ho, F', hd', hk, hs, hg⟩
  have toS := DkTo.of_step hF hX hb ⟨F', hd', hk, hs⟩
  refine ⟨g, c, rfl, ho, toS, ⟨⟨F', hd', ?_, ?_⟩, toS.1.2⟩⟩
  · intro k e
    have := hb.size
    rcases hs k e with e | e
    · exact hF k e
    · omega
  · intro x hx
    rcases List.mem_cons.1 hx with e | hx
    · subst e; exact ⟨ho.lt.2, hg⟩
    · have h1 := hX x hx
      have := hk.size
      refine ⟨by omega, fun e => ?_⟩
      rcases hs x e with e | e
      · exact h1.2 e
      · omega
theorem in_unread (w0 : World) (b : Nat) (s : Dk) (X : List Nat) (i : Int) (w : World) (h : DkIn w0 w b s X) (h0 : -9223372036854775808 ≤ i) (h1 : i ≤ 9223372036854775807) (hi : i < 0 ∨ s.blk.length ≤ i ∨ s.read i.toNat = none) (hw : s.wt.length ≤ 1000000) :
    Calls Try.prog 52 #[.pointer (some ⟨b, 0, none⟩), .int .i64 i] w fun e w' => e = .returned (.tuple #[.slice none 0 0, .bool false]) ∧ DkTo w0 w b s X w' := by
  obtain ⟨⟨F, hd, hF, hX⟩, hb⟩ := h
  refine (disk_unread F b s i w hd h0 h1 hi hw).mono ?_
  rintro e w' ⟨rfl, st⟩
  exact ⟨rfl, DkTo.of_step hF hX hb st⟩
theorem in_waits (w0 : World) (b : Nat) (s : Dk) (X : List Nat) (w : World) (h : DkIn w0 w b s X) (hw : s.wt.length ≤ 1000000) :
    Calls Try.prog 20 #[.pointer (some ⟨b, 0, none⟩)] w fun e w' => e = .returned (.int .i64 s.wt.length) ∧ DkTo w0 w b s X w' := by
  obtain ⟨⟨F, hd, hF, hX⟩, hb⟩ := h
  refine (disk_waits F b s w hd hw).mono ?_
  rintro e w' ⟨rfl, m, rfl⟩
  exact ⟨rfl, DkTo.of_step hF hX hb (Step.drewN hd m)⟩
theorem in_off (w0 : World) (b : Nat) (s : Dk) (X : List Nat) (w : World) (h : DkIn w0 w b s X) :
    Calls Try.prog 32 #[.pointer (some ⟨b, 0, none⟩)] w fun e w' => e = .returned (.bool s.off) ∧ DkTo w0 w b s X w' := by
  obtain ⟨⟨F, hd, hF, hX⟩, hb⟩ := h
  refine (disk_off F b s w hd).mono ?_
  rintro e w' ⟨rfl, m, rfl⟩
  exact ⟨rfl, DkTo.of_step hF hX hb (Step.drewN hd m)⟩
end Go.Proofs.Ytilmicekpclmbaa
