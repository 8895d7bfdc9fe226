/-
  The program's disk and the document's own beside each other.
-/
import Derived.Test.YtaehgpieichjkaaDFace
import Derived.Test.YtaehgpieichjkaaRefN
namespace Go.Proofs.Ytaehgpieichjkaa
set_option linter.unusedVariables false
set_option linter.unusedSimpArgs false
open Go.RowKit

/-- Both lie apart, behind w0; the blocks X are none of theirs. -/
def Two (w0 w : World) (d r : Nat) (s t : Dk) (X : List Nat) : Prop :=
  (∃ F G, DiskAt w F d s ∧ RefAt w G r t ∧ (∀ k, F k → ¬ G k) ∧ (∀ k, F k → w0.heap.size ≤ k) ∧ (∀ k, G k → w0.heap.size ≤ k) ∧ ∀ x, x ∈ X → x < w.heap.size ∧ ¬ F x ∧ ¬ G x) ∧ Below w0.heap.size w0 w
theorem RefAt.lt {w : World} {G : Nat → Prop} {r : Nat} {t : Dk} (h : RefAt w G r t) (k : Nat) (hk : G k) : k < w.heap.size := by
  obtain ⟨p, h⟩ := h
  exact h.lt k hk
theorem Two.ok {w0 w : World} {d r : Nat} {s t : Dk} {X : List Nat} (h : Two w0 w d r s t X) : s.Ok := by
  obtain ⟨⟨F, G, h1, h2, _⟩, _⟩ := h
  exact h1.ok
theorem Two.below {w0 w w' : World} {d r : Nat} {s t : Dk} {X : List Nat} (h : Two w0 w d r s t X) (k : Below w.heap.size w w') : Two w0 w' d r s t X := by
  obtain ⟨⟨F, G, h1, h2, h3, h4, h5, h6⟩, hb⟩ := h
  refine ⟨⟨F, G, h1.stay (fun j hj => k.block j (h1.lt j hj)), h2.stay (fun j hj => k.block j (h2.lt j hj)) k.size, h3, h4, h5, fun x hx => ⟨?_, (h6 x hx).2⟩⟩, hb.trans (k.mono hb.size)⟩
  have := (h6 x hx).1
  have := k.size
  omega
theorem Two.drewN {w0 w : World} {d r : Nat} {s t : Dk} {X : List Nat} (h : Two w0 w d r s t X) (n : Nat) : Two w0 (w.drewN n) d r s t X := h.below (below_drewN (Below.refl _ _) n)
theorem Two.drew {w0 w : World} {d r : Nat} {s t : Dk} {X : List Nat} (h : Two w0 w d r s t X) : Two w0 w.drew d r s t X := h.below (Below.refl _ _).drew
theorem Two.push {w0 w w' : World} {d r g : Nat} {s t : Dk} {X : List Nat} (h : Two w0 w d r s t X) (k : Below w.heap.size w w') (e1 : w.heap.size ≤ g) (e2 : g < w'.heap.size) : Two w0 w' d r s t (g :: X) := by
  obtain ⟨⟨F, G, h1, h2, h3, h4, h5, h6⟩, hb⟩ := h
  refine ⟨⟨F, G, h1.stay (fun j hj => k.block j (h1.lt j hj)), h2.stay (fun j hj => k.block j (h2.lt j hj)) k.size, h3, h4, h5, fun x hx => ?_⟩, hb.trans (k.mono hb.size)⟩
  rcases List.mem_cons.1 hx with e | hx
  · subst e
    exact ⟨e2, fun e => by have := h1.lt _ e; omega, fun e => by have := h2.lt _ e; omega⟩
  · have h7 := h6 x hx
    have := k.size
    exact ⟨by omega, h7.2⟩
theorem Two.less {w0 w : World} {d r : Nat} {s t : Dk} {X Y : List Nat} (h : Two w0 w d r s t X) (k : ∀ y, y ∈ Y → y ∈ X) : Two w0 w d r s t Y := by
  obtain ⟨⟨F, G, h1, h2, h3, h4, h5, h6⟩, hb⟩ := h
  exact ⟨⟨F, G, h1, h2, h3, h4, h5, fun x hx => h6 x (k x hx)⟩, hb⟩
/-- What a call of one of them leaves. -/
def TwoTo (w0 w : World) (d r : Nat) (s t : Dk) (X : List Nat) (w' : World) : Prop := Two w0 w' d r s t X ∧ SameX X w w' ∧ Below w0.heap.size w w'
theorem two_disk {w0 w w' : World} {F G : Nat → Prop} {d r : Nat} {s' t : Dk} {X : List Nat} (h2 : RefAt w G r t) (h3 : ∀ k, F k → ¬ G k) (h4 : ∀ k, F k → w0.heap.size ≤ k) (h5 : ∀ k, G k → w0.heap.size ≤ k) (h6 : ∀ x, x ∈ X → x < w.heap.size ∧ ¬ F x ∧ ¬ G x) (hb : Below w0.heap.size w0 w) (st : Step F d s' w w') : TwoTo w0 w d r s' t X w' := by
  obtain ⟨F', hd, hk, hs⟩ := st
  have h0 := hb.size
  have hsz := hk.size
  refine ⟨⟨⟨F', G, hd, h2.stay (fun j hj => hk.block j (h2.lt j hj) (fun e => h3 j e hj)) hsz, fun k e e' => ?_, fun k e => ?_, h5, fun x hx => ?_⟩, hk.below h4 hb h0⟩, fun x hx => hk.block x (h6 x hx).1 (h6 x hx).2.1, hk.below h4 (Below.refl _ _) h0⟩
  · rcases hs k e with e | e
    · exact h3 k e e'
    · have := h2.lt k e'
      omega
  · rcases hs k e with e | e
    · exact h4 k e
    · omega
  · have h7 := h6 x hx
    refine ⟨by omega, fun e => ?_, h7.2.2⟩
    rcases hs x e with e | e
    · exact h7.2.1 e
    · omega
theorem two_ref {w0 w w' : World} {F G : Nat → Prop} {d r : Nat} {s t' : Dk} {X : List Nat} (h1 : DiskAt w F d s) (h3 : ∀ k, F k → ¬ G k) (h4 : ∀ k, F k → w0.heap.size ≤ k) (h5 : ∀ k, G k → w0.heap.size ≤ k) (h6 : ∀ x, x ∈ X → x < w.heap.size ∧ ¬ F x ∧ ¬ G x) (hb : Below w0.heap.size w0 w) (st : RStep G r t' w w') : TwoTo w0 w d r s t' X w' := by
  obtain ⟨G', hr, hk, hs⟩ := st
  have h0 := hb.size
  have hsz := hk.size
  refine ⟨⟨⟨F, G', h1.stay (fun j hj => hk.block j (h1.lt j hj) (h3 j hj)), hr, fun k e e' => ?_, h4, fun k e => ?_, fun x hx => ?_⟩, hk.below h5 hb h0⟩, fun x hx => hk.block x (h6 x hx).1 (h6 x hx).2.2, hk.below h5 (Below.refl _ _) h0⟩
  · rcases hs k e' with e' | e'
    · exact h3 k e e'
    · have := h1.lt k e
      omega
  · rcases hs k e with e | e
    · exact h5 k e
    · omega
  · have h7 := h6 x hx
    refine ⟨by omega, h7.2.1, fun e => ?_⟩
    rcases hs x e with e | e
    · exact h7.2.2 e
    · omega

theorem td_write (w0 : World) (d r : Nat) (s t : Dk) (X : List Nat) (i c g : Nat) (xs : List Int) (w : World) (h : Two w0 w d r s t X) (hi : i < s.blk.length) (hx : IsBlk xs) (base : Nat) (hr : Own w base g c xs) (hg : g ∈ X) (hw : s.wt.length ≤ 1000000) (hv : s.wrote ≤ 1000000000000) :
    Calls Try.prog 10 #[.pointer (some ⟨d, 0, none⟩), .int .i64 i, .slice (some ⟨g, 0, none⟩) 128 c] w fun e w' => e = .returned (.int .i64 s.says) ∧ TwoTo w0 w d r (s.write i xs) t X w' := by
  obtain ⟨⟨F, G, h1, h2, h3, h4, h5, h6⟩, hb⟩ := h
  refine (disk_write F d s i c _ _ xs w h1 hi hx hr.reads (Nat.le_refl _) (fun a ha => by injection ha with ha; subst ha; exact (h6 g hg).2.1) hw hv).mono ?_
  rintro e w' ⟨rfl, st⟩
  exact ⟨rfl, two_disk h2 h3 h4 h5 h6 hb st⟩
theorem tr_write (w0 : World) (d r : Nat) (s t : Dk) (X : List Nat) (i c g : Nat) (xs : List Int) (w : World) (h : Two w0 w d r s t X) (hi : i < t.blk.length) (hx : IsBlk xs) (base : Nat) (hr : Own w base g c xs) (hg : g ∈ X) (hw : t.wt.length ≤ 1000000) (hv : t.wrote ≤ 1000000000000) :
    Calls Try.prog 18 #[.pointer (some ⟨r, 0, none⟩), .int .i64 i, .slice (some ⟨g, 0, none⟩) 128 c] w fun e w' => e = .returned (.int .i64 t.says) ∧ TwoTo w0 w d r s (t.write i xs) X w' := by
  obtain ⟨⟨F, G, h1, ⟨p, h2⟩, h3, h4, h5, h6⟩, hb⟩ := h
  refine (rwrite_any G r t p i c _ _ xs w h2 hi hx hr.reads (Nat.le_refl _) (fun a ha => by injection ha with ha; subst ha; exact (h6 g hg).2.2) (fun e => by cases e) hw hv).mono ?_
  rintro e w' ⟨rfl, st⟩
  exact ⟨rfl, two_ref h1 h3 h4 h5 h6 hb st⟩
theorem td_refuse (w0 : World) (d r : Nat) (s t : Dk) (X : List Nat) (i : Int) (n c : Nat) (A : Option Addr) (w : World) (h : Two w0 w d r s t X) (h0 : -9223372036854775808 ≤ i) (h1 : i ≤ 9223372036854775807) (hn : n ≤ maxLen) (hi : i < 0 ∨ s.blk.length ≤ i ∨ n ≠ 128) :
    Calls Try.prog 10 #[.pointer (some ⟨d, 0, none⟩), .int .i64 i, .slice A n c] w fun e w' => e = .returned (.int .i64 1) ∧ TwoTo w0 w d r s t X w' := by
  obtain ⟨⟨F, G, k1, h2, h3, h4, h5, h6⟩, hb⟩ := h
  refine (disk_refuse F d s i n c A w k1 h0 h1 hn hi).mono ?_
  rintro e w' ⟨rfl, st⟩
  exact ⟨rfl, two_disk h2 h3 h4 h5 h6 hb st⟩
theorem tr_refuse (w0 : World) (d r : Nat) (s t : Dk) (X : List Nat) (i : Int) (n c : Nat) (A : Option Addr) (w : World) (h : Two w0 w d r s t X) (h0 : -9223372036854775808 ≤ i) (h1 : i ≤ 9223372036854775807) (hn : n ≤ maxLen) (hi : i < 0 ∨ t.blk.length ≤ i ∨ n ≠ 128) :
    Calls Try.prog 18 #[.pointer (some ⟨r, 0, none⟩), .int .i64 i, .slice A n c] w fun e w' => e = .returned (.int .i64 1) ∧ w' = w := by
  obtain ⟨⟨F, G, k1, ⟨p, h2⟩, h3, h4, h5, h6⟩, hb⟩ := h
  exact rrefuse_any G r t p i n c A w h2 h0 h1 hn hi
theorem td_flush (w0 : World) (d r : Nat) (s t : Dk) (X : List Nat) (w : World) (h : Two w0 w d r s t X) (hw : s.wt.length ≤ 1000000) :
    Calls Try.prog 14 #[.pointer (some ⟨d, 0, none⟩)] w fun e w' => e = .returned (.int .i64 s.says) ∧ TwoTo w0 w d r s.flush t X w' := by
  obtain ⟨⟨F, G, k1, h2, h3, h4, h5, h6⟩, hb⟩ := h
  refine (disk_flush F d s w k1 hw).mono ?_
  rintro e w' ⟨rfl, st⟩
  exact ⟨rfl, two_disk h2 h3 h4 h5 h6 hb st⟩
theorem tr_flush (w0 : World) (d r : Nat) (s t : Dk) (X : List Nat) (w : World) (h : Two w0 w d r s t X) (hw : t.wt.length ≤ 1000000) :
    Calls Try.prog 19 #[.pointer (some ⟨r, 0, none⟩)] w fun e w' => e = .returned (.int .i64 t.says) ∧ TwoTo w0 w d r s t.flush X w' := by
  obtain ⟨⟨F, G, k1, ⟨p, h2⟩, h3, h4, h5, h6⟩, hb⟩ := h
  refine (rflush_any G r t p w h2 hw).mono ?_
  rintro e w' ⟨rfl, st⟩
  exact ⟨rfl, two_ref k1 h3 h4 h5 h6 hb st⟩
theorem td_boot (w0 : World) (d r : Nat) (s t : Dk) (X : List Nat) (n c N : Nat) (A : Option Addr) (how : List Int) (w : World) (h : Two w0 w d r s t X) (hl : how.length = n) (hm : n ≤ maxLen) (hr : RdB w N A how) (hN : N ≤ w.heap.size) (hA : ∀ a, A = some a → 0 < n → a.block < w0.heap.size ∨ a.block ∈ X) (hw : s.wt.length ≤ 1000000) :
    Calls Try.prog 12 #[.pointer (some ⟨d, 0, none⟩), .slice A n c] w fun e w' => e = .returned (.tuple #[]) ∧ TwoTo w0 w d r (s.boot how) t X w' := by
  obtain ⟨⟨F, G, k1, h2, h3, h4, h5, h6⟩, hb⟩ := h
  refine (disk_boot F d s n c N A how w k1 hl hm hr hN (fun a ha h0 e => ?_) hw).mono ?_
  · rcases hA a ha h0 with k | k
    · have := h4 _ e
      omega
    · exact (h6 _ k).2.1 e
  rintro e w' ⟨rfl, st⟩
  exact ⟨rfl, two_disk h2 h3 h4 h5 h6 hb st⟩
theorem tr_boot (w0 : World) (d r : Nat) (s t : Dk) (X : List Nat) (n c N : Nat) (A : Option Addr) (how : List Int) (w : World) (h : Two w0 w d r s t X) (hl : how.length = n) (hm : n ≤ maxLen) (hr : RdB w N A how) (hN : N ≤ w.heap.size) (hA : ∀ a, A = some a → 0 < n → a.block < w0.heap.size ∨ a.block ∈ X) (hw : t.wt.length ≤ 1000000) :
    Calls Try.prog 20 #[.pointer (some ⟨r, 0, none⟩), .slice A n c] w fun e w' => e = .returned (.tuple #[]) ∧ TwoTo w0 w d r s (t.boot how) X w' := by
  obtain ⟨⟨F, G, k1, ⟨p, h2⟩, h3, h4, h5, h6⟩, hb⟩ := h
  refine (rboot_any G r t p n c N A how w h2 hl hm hr hN (fun a ha h0 e => ?_) hw).mono ?_
  · rcases hA a ha h0 with k | k
    · have := h5 _ e
      omega
    · exact (h6 _ k).2.2 e
  rintro e w' ⟨rfl, st⟩
  exact ⟨rfl, two_ref k1 h3 h4 h5 h6 hb st⟩
theorem td_arm (w0 : World) (d r : Nat) (s t : Dk) (X : List Nat) (n : Int) (w : World) (h : Two w0 w d r s t X) (h0 : -9223372036854775808 ≤ n) (h1 : n ≤ 9223372036854775807) :
    Calls Try.prog 21 #[.pointer (some ⟨d, 0, none⟩), .int .i64 n] w fun e w' => e = .returned (.tuple #[]) ∧ TwoTo w0 w d r (s.arm n) t X w' := by
  obtain ⟨⟨F, G, k1, h2, h3, h4, h5, h6⟩, hb⟩ := h
  refine (disk_arm F d s n w k1 h0 h1).mono ?_
  rintro e w' ⟨rfl, st⟩
  exact ⟨rfl, two_disk h2 h3 h4 h5 h6 hb st⟩
/-- The document's own fuse is written by the law itself. -/
theorem Two.arm {w0 w : World} {d r : Nat} {s t : Dk} {X : List Nat} (h : Two w0 w d r s t X) (n : Int) (hn : n ≤ 9223372036854775807) : Two w0 (w.setCell ⟨r, 4, none⟩ (.int .i64 (t.arm n).fuse)) d r s (t.arm n) X ∧ SameX X w (w.setCell ⟨r, 4, none⟩ (.int .i64 (t.arm n).fuse)) := by
  obtain ⟨⟨F, G, k1, ⟨p, h2⟩, h3, h4, h5, h6⟩, hb⟩ := h
  have := two_ref k1 h3 h4 h5 h6 hb (t' := t.arm n) ⟨G, ⟨p, h2.word 4 (.int .i64 (t.arm n).fuse) rfl rfl rfl (h2.ok.arm n hn) rfl⟩, (Keep.refl G w).setCell (a := ⟨r, 4, none⟩) h2.fr _, Sub.refl _ _⟩
  exact ⟨this.1, this.2.1⟩
theorem td_burst (w0 : World) (d r : Nat) (s t : Dk) (X : List Nat) (i a : Nat) (x : B32) (w : World) (h : Two w0 w d r s t X) (hi : i < s.blk.length) (ha : a ≤ 124) (hw : s.wt = []) :
    Calls Try.prog 22 #[.pointer (some ⟨d, 0, none⟩), .int .i64 i, .int .i64 a, .int .u32 (wrd x)] w fun e w' => e = .returned (.bool true) ∧ TwoTo w0 w d r (s.burst i a x) t X w' := by
  obtain ⟨⟨F, G, k1, h2, h3, h4, h5, h6⟩, hb⟩ := h
  refine (disk_burst F d s i a x w k1 hi ha hw).mono ?_
  rintro e w' ⟨rfl, st⟩
  exact ⟨rfl, two_disk h2 h3 h4 h5 h6 hb st⟩
theorem tr_burst (w0 : World) (d r : Nat) (s t : Dk) (X : List Nat) (i a : Nat) (x : B32) (w : World) (h : Two w0 w d r s t X) (hi : i < t.blk.length) (ha : a ≤ 124) (hw : t.wt = []) :
    Calls Try.prog 23 #[.pointer (some ⟨r, 0, none⟩), .int .i64 i, .int .i64 a, .int .u32 (wrd x)] w fun e w' => e = .returned (.bool true) ∧ TwoTo w0 w d r s (t.burst i a x) X w' := by
  obtain ⟨⟨F, G, k1, ⟨p, h2⟩, h3, h4, h5, h6⟩, hb⟩ := h
  refine (rburst_any G r t p i a x w h2 hi ha hw).mono ?_
  rintro e w' ⟨rfl, st⟩
  exact ⟨rfl, two_ref k1 h3 h4 h5 h6 hb st⟩
theorem td_unburst (w0 : World) (d r : Nat) (s t : Dk) (X : List Nat) (i a : Int) (x : B32) (w : World) (h : Two w0 w d r s t X) (h0 : -9223372036854775808 ≤ i) (h1 : i ≤ 9223372036854775807) (h2 : -9223372036854775808 ≤ a) (h3 : a ≤ 9223372036854775807) (hi : i < 0 ∨ s.blk.length ≤ i ∨ a < 0 ∨ 124 < a ∨ s.wt ≠ []) (hw : s.wt.length ≤ 1000000) :
    Calls Try.prog 22 #[.pointer (some ⟨d, 0, none⟩), .int .i64 i, .int .i64 a, .int .u32 (wrd x)] w fun e w' => e = .returned (.bool false) ∧ TwoTo w0 w d r s t X w' := by
  obtain ⟨⟨F, G, k1, k2, k3, k4, k5, k6⟩, hb⟩ := h
  refine (disk_unburst F d s i a x w k1 h0 h1 h2 h3 hi hw).mono ?_
  rintro e w' ⟨rfl, st⟩
  exact ⟨rfl, two_disk k2 k3 k4 k5 k6 hb st⟩
theorem tr_unburst (w0 : World) (d r : Nat) (s t : Dk) (X : List Nat) (i a : Int) (x : B32) (w : World) (h : Two w0 w d r s t X) (h0 : -9223372036854775808 ≤ i) (h1 : i ≤ 9223372036854775807) (h2 : -9223372036854775808 ≤ a) (h3 : a ≤ 9223372036854775807) (hi : i < 0 ∨ t.blk.length ≤ i ∨ a < 0 ∨ 124 < a ∨ t.wt ≠ []) (hw : t.wt.length ≤ 1000000) :
    Calls Try.prog 23 #[.pointer (some ⟨r, 0, none⟩), .int .i64 i, .int .i64 a, .int .u32 (wrd x)] w fun e w' => e = .returned (.bool false) ∧ w' = w := by
  obtain ⟨⟨F, G, k1, ⟨p, k2⟩, k3, k4, k5, k6⟩, hb⟩ := h
  exact runburst_any G r t p i a x w k2 h0 h1 h2 h3 hi hw
/-- What the program's Read leaves beside the other. -/
def TRead (w0 w : World) (d r : Nat) (s t : Dk) (X : List Nat) (o : Option (List Int)) (e : Ending) (w' : World) : Prop :=
  TwoTo w0 w d r s t X w' ∧ match o with
  | some xs => ∃ g c, e = .returned (.tuple #[.slice (some ⟨g, 0, none⟩) 128 c, .bool true]) ∧ Own w' w.heap.size g c xs ∧ Two w0 w' d r s t (g :: X)
  | none => e = .returned (.tuple #[.slice none 0 0, .bool false])
theorem td_read (w0 : World) (d r : Nat) (s t : Dk) (X : List Nat) (i : Nat) (w : World) (h : Two w0 w d r s t X) (hi : i < s.blk.length) (hw : s.wt.length ≤ 1000000) :
    Calls Try.prog 13 #[.pointer (some ⟨d, 0, none⟩), .int .i64 i] w (TRead w0 w d r s t X (s.read i)) := by
  obtain ⟨⟨F, G, k1, k2, k3, k4, k5, k6⟩, hb⟩ := h
  cases ho : s.read i with
  | none =>
    refine (disk_unread F d s i w k1 (by omega) (by have := k1.ok.n2; omega) (Or.inr (Or.inr (by rw [Int.toNat_natCast]; exact ho))) hw).mono ?_
    rintro e w' ⟨rfl, st⟩
    exact ⟨two_disk k2 k3 k4 k5 k6 hb st, rfl⟩
  | some xs =>
    refine (disk_read F d s i xs w k1 hi ho hw).mono ?_
    rintro e w' ⟨g, c, rfl, og, F', hd', hk, hs, hg⟩
    have tto := two_disk k2 k3 k4 k5 k6 hb ⟨F', hd', hk, hs⟩
    refine ⟨tto, g, c, rfl, og, ⟨F', G, hd', k2.stay (fun j hj => hk.block j (k2.lt j hj) (fun e => k3 j e hj)) hk.size, fun k e e' => ?_, fun k e => ?_, k5, fun x hx => ?_⟩, tto.1.2⟩
    · rcases hs k e with e | e
      · exact k3 k e e'
      · have := k2.lt k e'; omega
    · have := hb.size
      rcases hs k e with e | e
      · exact k4 k e
      · omega
    · have hsz := hk.size
      rcases List.mem_cons.1 hx with e | hx
      · subst e
        exact ⟨og.lt.2, hg, fun e => by have := k2.lt _ e; have := og.lt.1; omega⟩
      · have h7 := k6 x hx
        refine ⟨by omega, fun e => ?_, h7.2.2⟩
        rcases hs x e with e | e
        · exact h7.2.1 e
        · omega
theorem td_unread (w0 : World) (d r : Nat) (s t : Dk) (X : List Nat) (i : Int) (w : World) (h : Two w0 w d r s t X) (h0 : -9223372036854775808 ≤ i) (h1 : i ≤ 9223372036854775807) (hi : i < 0 ∨ s.blk.length ≤ i) (hw : s.wt.length ≤ 1000000) :
    Calls Try.prog 13 #[.pointer (some ⟨d, 0, none⟩), .int .i64 i] w fun e w' => e = .returned (.tuple #[.slice none 0 0, .bool false]) ∧ TwoTo w0 w d r s t X w' := by
  obtain ⟨⟨F, G, k1, k2, k3, k4, k5, k6⟩, hb⟩ := h
  refine (disk_unread F d s i w k1 h0 h1 (hi.imp id Or.inl) hw).mono ?_
  rintro e w' ⟨rfl, st⟩
  exact ⟨rfl, two_disk k2 k3 k4 k5 k6 hb st⟩
theorem tr_read (w0 : World) (d r : Nat) (s t : Dk) (X : List Nat) (i : Nat) (w : World) (h : Two w0 w d r s t X) (hi : i < t.blk.length) (hw : t.wt.length ≤ 1000000) :
    Calls Try.prog 28 #[.pointer (some ⟨r, 0, none⟩), .int .i64 i] w (RReadL (t.read i) w) := by
  obtain ⟨⟨F, G, k1, ⟨p, k2⟩, k3, k4, k5, k6⟩, hb⟩ := h
  exact rread_any G r t p i w k2 hi hw
theorem tr_unread (w0 : World) (d r : Nat) (s t : Dk) (X : List Nat) (i : Int) (w : World) (h : Two w0 w d r s t X) (h0 : -9223372036854775808 ≤ i) (h1 : i ≤ 9223372036854775807) (hi : i < 0 ∨ t.blk.length ≤ i) :
    Calls Try.prog 28 #[.pointer (some ⟨r, 0, none⟩), .int .i64 i] w fun e w' => e = .returned (.tuple #[.slice none 0 0, .bool false]) ∧ w' = w := by
  obtain ⟨⟨F, G, k1, ⟨p, k2⟩, k3, k4, k5, k6⟩, hb⟩ := h
  exact runread_any G r t p i w k2 h0 h1 hi
/-- A twin of the program's disk goes on; what the elder one does is nothing to it. -/
theorem td_twin (w0 : World) (d r : Nat) (s t : Dk) (X : List Nat) (w : World) (h : Two w0 w d r s t X) (hw : s.wt.length ≤ 1000000) :
    Calls Try.prog 24 #[.pointer (some ⟨d, 0, none⟩)] w fun e w' => ∃ d', e = .returned (.pointer (some ⟨d', 0, none⟩)) ∧ (∃ F T G, DiskAt w' F d s ∧ DiskAt w' T d' s ∧ RefAt w' G r t ∧ (∀ k, F k → ¬ G k) ∧ (∀ k, T k → ¬ G k) ∧ (∀ k, F k → ¬ T k) ∧ (∀ k, F k → w0.heap.size ≤ k) ∧ (∀ k, T k → w0.heap.size ≤ k) ∧ (∀ k, G k → w0.heap.size ≤ k) ∧ (∀ x, x ∈ X → x < w'.heap.size ∧ ¬ F x ∧ ¬ T x ∧ ¬ G x)) ∧ Below w0.heap.size w0 w' ∧ SameX X w w' := by
  obtain ⟨⟨F, G, k1, k2, k3, k4, k5, k6⟩, hb⟩ := h
  refine (disk_twin F d s w k1 hw).mono ?_
  rintro e w' ⟨d', T, rfl, hT, hTf, F', hF', hk, hs, hFT⟩
  have h0 := hb.size
  have hsz := hk.size
  refine ⟨d', rfl, ⟨F', T, G, hF', hT, k2.stay (fun j hj => hk.block j (k2.lt j hj) (fun e => k3 j e hj)) hsz, fun k e e' => ?_, fun k e e' => ?_, hFT, fun k e => ?_, fun k e => ?_, k5, fun x hx => ?_⟩, hk.below k4 hb h0, fun x hx => hk.block x (k6 x hx).1 (k6 x hx).2.1⟩
  · rcases hs k e with e | e
    · exact k3 k e e'
    · have := k2.lt k e'; omega
  · have := hTf k e
    have := k2.lt k e'
    omega
  · rcases hs k e with e | e
    · exact k4 k e
    · omega
  · have := hTf k e
    omega
  · have h7 := k6 x hx
    refine ⟨by omega, fun e => ?_, fun e => ?_, h7.2.2⟩
    · rcases hs x e with e | e
      · exact h7.2.1 e
      · omega
    · have := hTf x e
      omega
end Go.Proofs.Ytaehgpieichjkaa
