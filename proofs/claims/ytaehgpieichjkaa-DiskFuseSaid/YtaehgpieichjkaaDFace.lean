/-
  One disk in a law's memory: what each call of it makes of it, and of other blocks of the law's own. Over the contracts of package disk (DA).
-/
import Derived.Test.YtaehgpieichjkaaDA
import Derived.WalkSmall
import Derived.Deep.QuietTactic
namespace Go.Proofs.Ytaehgpieichjkaa
set_option linter.unusedVariables false
set_option linter.unusedSimpArgs false
open Go.RowKit

/-- A disk that was made behind w0; the blocks X are none of its own. -/
def DkIn (w0 w : World) (b : Nat) (s : Dk) (X : List Nat) : Prop :=
  (∃ F, DiskAt w F b s ∧ (∀ k, F k → w0.heap.size ≤ k) ∧ ∀ x, x ∈ X → x < w.heap.size ∧ ¬ F x) ∧ Below w0.heap.size w0 w
/-- These blocks are as they were. -/
def SameX (X : List Nat) (w w' : World) : Prop := ∀ x, x ∈ X → w'.heap[x]? = w.heap[x]?
/-- What a call of a disk leaves. -/
def DkTo (w0 w : World) (b : Nat) (s' : Dk) (X : List Nat) (w' : World) : Prop := DkIn w0 w' b s' X ∧ SameX X w w' ∧ Below w0.heap.size w w'
theorem DkIn.ok {w0 w : World} {b : Nat} {s : Dk} {X : List Nat} (h : DkIn w0 w b s X) : s.Ok := by
  obtain ⟨⟨F, hd, _, _⟩, _⟩ := h
  exact hd.ok
theorem DkIn.of_below {w0 w : World} {b : Nat} {s : Dk} {X : List Nat} (h : DkIn w0 w b s X) : Below w0.heap.size w0 w := h.2
theorem DkIn.below {w0 w w' : World} {b : Nat} {s : Dk} {X : List Nat} (h : DkIn w0 w b s X) (k : Below w.heap.size w w') : DkIn w0 w' b s X := by
  obtain ⟨⟨F, hd, hF, hX⟩, hb⟩ := h
  refine ⟨⟨F, hd.stay (fun j hj => k.block j (hd.lt j hj)), hF, fun x hx => ⟨?_, (hX x hx).2⟩⟩, hb.trans (k.mono hb.size)⟩
  have := (hX x hx).1
  have := k.size
  omega
theorem DkIn.drewN {w0 w : World} {b : Nat} {s : Dk} {X : List Nat} (h : DkIn w0 w b s X) (n : Nat) : DkIn w0 (w.drewN n) b s X := h.below (below_drewN (Below.refl _ _) n)
theorem DkIn.drew {w0 w : World} {b : Nat} {s : Dk} {X : List Nat} (h : DkIn w0 w b s X) : DkIn w0 w.drew b s X := h.below (Below.refl _ _).drew
/-- A new block of the law's own. -/
theorem DkIn.push {w0 w w' : World} {b g : Nat} {s : Dk} {X : List Nat} (h : DkIn w0 w b s X) (k : Below w.heap.size w w') (h1 : w.heap.size ≤ g) (h2 : g < w'.heap.size) : DkIn w0 w' b s (g :: X) := by
  obtain ⟨⟨F, hd, hF, hX⟩, hb⟩ := h
  refine ⟨⟨F, hd.stay (fun j hj => k.block j (hd.lt j hj)), hF, fun x hx => ?_⟩, hb.trans (k.mono hb.size)⟩
  rcases List.mem_cons.1 hx with e | hx
  · subst e
    exact ⟨h2, fun e => by have := hd.lt _ e; omega⟩
  · have h3 := hX x hx
    have := k.size
    exact ⟨by omega, h3.2⟩
theorem DkIn.less {w0 w : World} {b : Nat} {s : Dk} {X Y : List Nat} (h : DkIn w0 w b s X) (k : ∀ y, y ∈ Y → y ∈ X) : DkIn w0 w b s Y := by
  obtain ⟨⟨F, hd, hF, hX⟩, hb⟩ := h
  exact ⟨⟨F, hd, hF, fun x hx => hX x (k x hx)⟩, hb⟩
theorem DkIn.set {w0 w : World} {b g : Nat} {s : Dk} {X : List Nat} (h : DkIn w0 w b s X) (hg : g ∈ X) (h0 : w0.heap.size ≤ g) (o : Nat) (v : Value) : DkIn w0 (w.setCell ⟨g, o, none⟩ v) b s X := by
  obtain ⟨⟨F, hd, hF, hX⟩, hb⟩ := h
  refine ⟨⟨F, hd.stay (fun j hj => Below.heap_setCell _ _ _ _ (fun e => ?_)), hF, fun x hx => ⟨?_, (hX x hx).2⟩⟩, hb.setCell h0 v⟩
  · subst e
    exact (hX _ hg).2 hj
  · have := (hX x hx).1
    simpa [World.setCell] using this
theorem DkTo.of_step {w0 w w' : World} {F : Nat → Prop} {b : Nat} {s' : Dk} {X : List Nat} (hF : ∀ k, F k → w0.heap.size ≤ k) (hX : ∀ x, x ∈ X → x < w.heap.size ∧ ¬ F x) (hb : Below w0.heap.size w0 w) (st : Step F b s' w w') : DkTo w0 w b s' X w' := by
  obtain ⟨F', hd, hk, hs⟩ := st
  have h0 := hb.size
  refine ⟨⟨⟨F', hd, fun k hF' => ?_, fun x hx => ⟨?_, fun e => ?_⟩⟩, hk.below hF hb h0⟩, fun x hx => hk.block x (hX x hx).1 (hX x hx).2, hk.below hF (Below.refl _ _) h0⟩
  · rcases hs k hF' with e | e
    · exact hF k e
    · omega
  · have := (hX x hx).1
    have := hk.size
    omega
  · rcases hs x e with e | e
    · exact (hX x hx).2 e
    · have := (hX x hx).1
      omega

theorem Step.drewN {F : Nat → Prop} {b : Nat} {s : Dk} {w : World} (h : DiskAt w F b s) (m : Nat) : Step F b s w (w.drewN m) :=
  ⟨F, h.stay (fun _ _ => rfl), ⟨rfl, rfl, rfl, Nat.le_refl _, fun _ _ _ => rfl⟩, Sub.refl _ _⟩
theorem in_new (n : Nat) (h1 : 1 ≤ n) (h2 : n ≤ 512) (w : World) : Calls Try.prog 9 #[.int .i64 n] w fun e w' => ∃ b, e = .returned (.pointer (some ⟨b, 0, none⟩)) ∧ DkIn w w' b (Dk.new n) [] := by
  refine (disk_new n h1 h2 w).mono ?_
  rintro e w' ⟨b, F, rfl, hd, hF, hb⟩
  exact ⟨b, rfl, ⟨F, hd, hF, fun x hx => by simp at hx⟩, hb⟩
theorem in_write (w0 : World) (b : Nat) (s : Dk) (X : List Nat) (i c g : Nat) (xs : List Int) (w : World) (h : DkIn w0 w b s X) (hi : i < s.blk.length) (hx : IsBlk xs) (base : Nat) (hr : Own w base g c xs) (hg : g ∈ X) (hw : s.wt.length ≤ 1000000) (hv : s.wrote ≤ 1000000000000) :
    Calls Try.prog 10 #[.pointer (some ⟨b, 0, none⟩), .int .i64 i, .slice (some ⟨g, 0, none⟩) 128 c] w fun e w' => e = .returned (.int .i64 s.says) ∧ DkTo w0 w b (s.write i xs) X w' := by
  obtain ⟨⟨F, hd, hF, hX⟩, hb⟩ := h
  refine (disk_write F b s i c _ _ xs w hd hi hx hr.reads (Nat.le_refl _) (fun a ha => by injection ha with ha; subst ha; exact (hX g hg).2) hw hv).mono ?_
  rintro e w' ⟨rfl, st⟩
  exact ⟨rfl, DkTo.of_step hF hX hb st⟩
theorem in_refuse (w0 : World) (b : Nat) (s : Dk) (X : List Nat) (i : Int) (n c : Nat) (A : Option Addr) (w : World) (h : DkIn w0 w b s X) (h0 : -9223372036854775808 ≤ i) (h1 : i ≤ 9223372036854775807) (hn : n ≤ maxLen) (hi : i < 0 ∨ s.blk.length ≤ i ∨ n ≠ 128) :
    Calls Try.prog 10 #[.pointer (some ⟨b, 0, none⟩), .int .i64 i, .slice A n c] w fun e w' => e = .returned (.int .i64 1) ∧ DkTo w0 w b s X w' := by
  obtain ⟨⟨F, hd, hF, hX⟩, hb⟩ := h
  refine (disk_refuse F b s i n c A w hd h0 h1 hn hi).mono ?_
  rintro e w' ⟨rfl, st⟩
  exact ⟨rfl, DkTo.of_step hF hX hb st⟩
theorem in_flush (w0 : World) (b : Nat) (s : Dk) (X : List Nat) (w : World) (h : DkIn w0 w b s X) (hw : s.wt.length ≤ 1000000) :
    Calls Try.prog 14 #[.pointer (some ⟨b, 0, none⟩)] w fun e w' => e = .returned (.int .i64 s.says) ∧ DkTo w0 w b s.flush X w' := by
  obtain ⟨⟨F, hd, hF, hX⟩, hb⟩ := h
  refine (disk_flush F b s w hd hw).mono ?_
  rintro e w' ⟨rfl, st⟩
  exact ⟨rfl, DkTo.of_step hF hX hb st⟩
theorem in_boot (w0 : World) (b : Nat) (s : Dk) (X : List Nat) (n c N : Nat) (A : Option Addr) (how : List Int) (w : World) (h : DkIn w0 w b s X) (hl : how.length = n) (hm : n ≤ maxLen) (hr : RdB w N A how) (hN : N ≤ w.heap.size) (hA : ∀ a, A = some a → 0 < n → a.block < w0.heap.size ∨ a.block ∈ X) (hw : s.wt.length ≤ 1000000) :
    Calls Try.prog 12 #[.pointer (some ⟨b, 0, none⟩), .slice A n c] w fun e w' => e = .returned (.tuple #[]) ∧ DkTo w0 w b (s.boot how) X w' := by
  obtain ⟨⟨F, hd, hF, hX⟩, hb⟩ := h
  refine (disk_boot F b s n c N A how w hd hl hm hr hN (fun a ha h0 e => ?_) hw).mono ?_
  · rcases hA a ha h0 with k | k
    · have := hF _ e
      omega
    · exact (hX _ k).2 e
  rintro e w' ⟨rfl, st⟩
  exact ⟨rfl, DkTo.of_step hF hX hb st⟩
/-- What Read leaves: new memory that holds what was read; it is none of the disk's own. -/
def RdTo (w0 w : World) (b : Nat) (s : Dk) (X : List Nat) (xs : List Int) (e : Ending) (w' : World) : Prop :=
  ∃ g c, e = .returned (.tuple #[.slice (some ⟨g, 0, none⟩) 128 c, .bool true]) ∧ Own w' w.heap.size g c xs ∧ DkTo w0 w b s X w' ∧ DkIn w0 w' b s (g :: X)
theorem in_read (w0 : World) (b : Nat) (s : Dk) (X : List Nat) (i : Nat) (xs : List Int) (w : World) (h : DkIn w0 w b s X) (hi : i < s.blk.length) (hx : s.read i = some xs) (hw : s.wt.length ≤ 1000000) :
    Calls Try.prog 13 #[.pointer (some ⟨b, 0, none⟩), .int .i64 i] w (RdTo w0 w b s X xs) := by
  obtain ⟨⟨F, hd, hF, hX⟩, hb⟩ := h
  refine (disk_read F b s i xs w hd hi hx hw).mono ?_
  rintro e w' ⟨g, c, rfl, ho, F', hd', hk, hs, hg⟩
  have toS := DkTo.of_step hF hX hb ⟨F', hd', hk, hs⟩
  refine ⟨g, c, rfl, ho, toS, ⟨⟨F', hd', ?_, ?_⟩, toS.1.2⟩⟩
  · intro k e
    have := hb.size
    rcases hs k e with e | e
    · exact hF k e
    · omega
  · intro x hx
    rcases List.mem_cons.1 hx with e | hx
    · subst e; exact ⟨ho.lt.2, hg⟩
    · have h1 := hX x hx
      have := hk.size
      refine ⟨by omega, fun e => ?_⟩
      rcases hs x e with e | e
      · exact h1.2 e
      · omega
theorem in_unread (w0 : World) (b : Nat) (s : Dk) (X : List Nat) (i : Int) (w : World) (h : DkIn w0 w b s X) (h0 : -9223372036854775808 ≤ i) (h1 : i ≤ 9223372036854775807) (hi : i < 0 ∨ s.blk.length ≤ i ∨ s.read i.toNat = none) (hw : s.wt.length ≤ 1000000) :
    Calls Try.prog 13 #[.pointer (some ⟨b, 0, none⟩), .int .i64 i] w fun e w' => e = .returned (.tuple #[.slice none 0 0, .bool false]) ∧ DkTo w0 w b s X w' := by
  obtain ⟨⟨F, hd, hF, hX⟩, hb⟩ := h
  refine (disk_unread F b s i w hd h0 h1 hi hw).mono ?_
  rintro e w' ⟨rfl, st⟩
  exact ⟨rfl, DkTo.of_step hF hX hb st⟩
theorem in_waits (w0 : World) (b : Nat) (s : Dk) (X : List Nat) (w : World) (h : DkIn w0 w b s X) (hw : s.wt.length ≤ 1000000) :
    Calls Try.prog 25 #[.pointer (some ⟨b, 0, none⟩)] w fun e w' => e = .returned (.int .i64 s.wt.length) ∧ DkTo w0 w b s X w' := by
  obtain ⟨⟨F, hd, hF, hX⟩, hb⟩ := h
  refine (disk_waits F b s w hd hw).mono ?_
  rintro e w' ⟨rfl, m, rfl⟩
  exact ⟨rfl, DkTo.of_step hF hX hb (Step.drewN hd m)⟩
theorem in_off (w0 : World) (b : Nat) (s : Dk) (X : List Nat) (w : World) (h : DkIn w0 w b s X) :
    Calls Try.prog 26 #[.pointer (some ⟨b, 0, none⟩)] w fun e w' => e = .returned (.bool s.off) ∧ DkTo w0 w b s X w' := by
  obtain ⟨⟨F, hd, hF, hX⟩, hb⟩ := h
  refine (disk_off F b s w hd).mono ?_
  rintro e w' ⟨rfl, m, rfl⟩
  exact ⟨rfl, DkTo.of_step hF hX hb (Step.drewN hd m)⟩
theorem in_wrote (w0 : World) (b : Nat) (s : Dk) (X : List Nat) (w : World) (h : DkIn w0 w b s X) :
    Calls Try.prog 16 #[.pointer (some ⟨b, 0, none⟩)] w fun e w' => e = .returned (.int .i64 s.wrote) ∧ DkTo w0 w b s X w' := by
  obtain ⟨⟨F, hd, hF, hX⟩, hb⟩ := h
  refine (disk_wrote F b s w hd).mono ?_
  rintro e w' ⟨rfl, m, rfl⟩
  exact ⟨rfl, DkTo.of_step hF hX hb (Step.drewN hd m)⟩
theorem in_arm (w0 : World) (b : Nat) (s : Dk) (X : List Nat) (n : Int) (w : World) (h : DkIn w0 w b s X) (h0 : -9223372036854775808 ≤ n) (h1 : n ≤ 9223372036854775807) :
    Calls Try.prog 21 #[.pointer (some ⟨b, 0, none⟩), .int .i64 n] w fun e w' => e = .returned (.tuple #[]) ∧ DkTo w0 w b (s.arm n) X w' := by
  obtain ⟨⟨F, hd, hF, hX⟩, hb⟩ := h
  refine (disk_arm F b s n w hd h0 h1).mono ?_
  rintro e w' ⟨rfl, st⟩
  exact ⟨rfl, DkTo.of_step hF hX hb st⟩
theorem in_burst (w0 : World) (b : Nat) (s : Dk) (X : List Nat) (i a : Nat) (x : B32) (w : World) (h : DkIn w0 w b s X) (hi : i < s.blk.length) (ha : a ≤ 124) (hw : s.wt = []) :
    Calls Try.prog 22 #[.pointer (some ⟨b, 0, none⟩), .int .i64 i, .int .i64 a, .int .u32 (wrd x)] w fun e w' => e = .returned (.bool true) ∧ DkTo w0 w b (s.burst i a x) X w' := by
  obtain ⟨⟨F, hd, hF, hX⟩, hb⟩ := h
  refine (disk_burst F b s i a x w hd hi ha hw).mono ?_
  rintro e w' ⟨rfl, st⟩
  exact ⟨rfl, DkTo.of_step hF hX hb st⟩
theorem in_unburst (w0 : World) (b : Nat) (s : Dk) (X : List Nat) (i a : Int) (x : B32) (w : World) (h : DkIn w0 w b s X) (h0 : -9223372036854775808 ≤ i) (h1 : i ≤ 9223372036854775807) (h2 : -9223372036854775808 ≤ a) (h3 : a ≤ 9223372036854775807) (hi : i < 0 ∨ s.blk.length ≤ i ∨ a < 0 ∨ 124 < a ∨ s.wt ≠ []) (hw : s.wt.length ≤ 1000000) :
    Calls Try.prog 22 #[.pointer (some ⟨b, 0, none⟩), .int .i64 i, .int .i64 a, .int .u32 (wrd x)] w fun e w' => e = .returned (.bool false) ∧ DkTo w0 w b s X w' := by
  obtain ⟨⟨F, hd, hF, hX⟩, hb⟩ := h
  refine (disk_unburst F b s i a x w hd h0 h1 h2 h3 hi hw).mono ?_
  rintro e w' ⟨rfl, st⟩
  exact ⟨rfl, DkTo.of_step hF hX hb st⟩
end Go.Proofs.Ytaehgpieichjkaa
