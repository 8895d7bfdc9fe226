/-
  A disk as plain data: blocks, which of them are torn, what waits, the fuse, the power; what each call makes of it. Maths alone.
-/
import Derived.Test.YtilmicekpclmbaaCrc
namespace Go.Proofs.Ytilmicekpclmbaa
set_option linter.unusedVariables false
set_option linter.unusedSimpArgs false

/-- So many noughts; a block of one byte. -/
def fillB (x : Int) : List Int := List.replicate 128 x
theorem fillB_length (x : Int) : (fillB x).length = 128 := by unfold fillB; rw [List.length_replicate]
theorem fillB_at (x : Int) (k : Nat) (h : k < 128) : (fillB x).getD k 0 = x := by
  unfold fillB; rw [List.getD_eq_getElem?_getD, List.getElem?_replicate, if_pos h]; rfl
/-- A block's bytes. -/
def IsBlk (b : List Int) : Prop := b.length = 128 ∧ ∀ k, k < b.length → U8 (b.getD k 0)
theorem IsBlk.fill {x : Int} (h : U8 x) : IsBlk (fillB x) := ⟨fillB_length x, fun k hk => by rw [fillB_length] at hk; rw [fillB_at x k hk]; exact h⟩

structure Dk where
  blk : List (List Int)
  bad : List Bool
  wt : List (Nat × List Int)
  fuse : Int
  off : Bool
  wrote : Nat
structure Dk.Ok (s : Dk) : Prop where
  n1 : 1 ≤ s.blk.length
  n2 : s.blk.length ≤ 512
  nb : s.bad.length = s.blk.length
  blks : ∀ i, i < s.blk.length → IsBlk (s.blk.getD i [])
  wts : ∀ p, p ∈ s.wt → p.1 < s.blk.length ∧ IsBlk p.2
  f0 : -1 ≤ s.fuse
  f1 : s.fuse ≤ 9223372036854775807

def Dk.new (n : Nat) : Dk := ⟨List.replicate n (fillB 0), List.replicate n false, [], -1, false, 0⟩
/-- Does a write or a flush go? -/
def Dk.goes (s : Dk) : Bool := !s.off && s.fuse != 0
/-- One of the fuse burns. -/
def Dk.burn (s : Dk) : Dk := { s with fuse := if 0 < s.fuse then s.fuse - 1 else s.fuse }
/-- The power goes off. -/
def Dk.down (s : Dk) : Dk := { s with off := true }
def Dk.arm (s : Dk) (n : Int) : Dk := { s with fuse := if n < -1 then -1 else n }
def Dk.write (s : Dk) (i : Nat) (b : List Int) : Dk := if s.goes then { s.burn with wt := s.wt ++ [(i, b)], wrote := s.wrote + 1 } else s.down
/-- The answer of Write and Flush. -/
def Dk.says (s : Dk) : Int := if s.goes then 0 else 7
def Dk.land (s : Dk) (p : Nat × List Int) : Dk := { s with blk := s.blk.set p.1 p.2, bad := s.bad.set p.1 false }
def Dk.tear (s : Dk) (i : Nat) : Dk := { s with bad := s.bad.set i true }
def Dk.lands (s : Dk) (l : List (Nat × List Int)) : Dk := l.foldl Dk.land s
def Dk.flush (s : Dk) : Dk := if s.goes then { (s.burn.lands s.wt) with wt := [] } else s.down
def Dk.bootOne (s : Dk) (p : Nat × List Int) (h : Int) : Dk := if h % 3 = 1 then s.land p else if h % 3 = 2 then s.tear p.1 else s
def Dk.boots (how : List Int) : Nat → List (Nat × List Int) → Dk → Dk
  | _, [], s => s
  | k, p :: r, s => Dk.boots how (k + 1) r (s.bootOne p (how.getD k 0))
def Dk.boot (s : Dk) (how : List Int) : Dk := { Dk.boots how 0 s.wt s with wt := [], fuse := -1, off := false }
/-- What waits for a block last. -/
def lastFor (l : List (Nat × List Int)) (i : Nat) : Option (List Int) := l.foldl (fun a p => if p.1 = i then some p.2 else a) none
def Dk.read (s : Dk) (i : Nat) : Option (List Int) :=
  if s.off then none else match lastFor s.wt i with
  | some b => some b
  | none => if s.bad.getD i false then none else some (s.blk.getD i [])
def burstB (b : List Int) (a : Nat) (x : B32) : List Int :=
  (((b.set a (xorB (b.getD a 0) (byteOf x 0))).set (a + 1) (xorB (b.getD (a + 1) 0) (byteOf x 1))).set (a + 2) (xorB (b.getD (a + 2) 0) (byteOf x 2))).set (a + 3) (xorB (b.getD (a + 3) 0) (byteOf x 3))
def Dk.burst (s : Dk) (i a : Nat) (x : B32) : Dk := { s with blk := s.blk.set i (burstB (s.blk.getD i []) a x) }

/-! ## What stays -/
theorem Dk.land_len (s : Dk) (p) : (s.land p).blk.length = s.blk.length := by unfold Dk.land; simp
theorem Dk.lands_snoc (s : Dk) (l) (p) : s.lands (l ++ [p]) = (s.lands l).land p := by unfold Dk.lands; rw [List.foldl_append]; rfl
theorem Dk.lands_nil (s : Dk) : s.lands [] = s := rfl
theorem Dk.lands_cons (s : Dk) (p) (l) : s.lands (p :: l) = (s.land p).lands l := rfl
theorem getD_setL {α : Type} (l : List α) (k j : Nat) (x d : α) (hj : j < l.length) : (l.set k x).getD j d = if k = j then x else l.getD j d := by
  rw [List.getD_eq_getElem?_getD, List.getElem?_set, List.getD_eq_getElem?_getD]
  by_cases h : k = j
  · subst h; simp [hj]
  · simp [h]
theorem getD_setB (l : List Bool) (k j : Nat) (x : Bool) : (l.set k x).getD j false = if k = j ∧ j < l.length then x else l.getD j false := by
  rw [List.getD_eq_getElem?_getD, List.getElem?_set, List.getD_eq_getElem?_getD]
  by_cases h : k = j
  · subst h
    by_cases hl : k < l.length
    · simp [hl]
    · simp [hl]
  · simp [h]
theorem Dk.Ok.burn {s : Dk} (h : s.Ok) : s.burn.Ok := by
  refine ⟨h.n1, h.n2, h.nb, h.blks, h.wts, ?_, ?_⟩
  · have := h.f0; unfold Dk.burn; show -1 ≤ ite _ _ _; split <;> omega
  · have := h.f1; unfold Dk.burn; show ite _ _ _ ≤ _; split <;> omega
theorem Dk.Ok.down {s : Dk} (h : s.Ok) : s.down.Ok := ⟨h.n1, h.n2, h.nb, h.blks, h.wts, h.f0, h.f1⟩
theorem Dk.Ok.arm {s : Dk} (h : s.Ok) (n : Int) (hn : n ≤ 9223372036854775807) : (s.arm n).Ok := by
  refine ⟨h.n1, h.n2, h.nb, h.blks, h.wts, ?_, ?_⟩
  · unfold Dk.arm; show -1 ≤ ite _ _ _; split <;> omega
  · unfold Dk.arm; show ite _ _ _ ≤ _; split <;> omega
theorem Dk.Ok.write {s : Dk} (h : s.Ok) (i : Nat) (b : List Int) (hi : i < s.blk.length) (hb : IsBlk b) : (s.write i b).Ok := by
  unfold Dk.write
  split
  · have k := h.burn
    refine ⟨k.n1, k.n2, k.nb, k.blks, fun p hp => ?_, k.f0, k.f1⟩
    rw [List.mem_append] at hp
    rcases hp with hp | hp
    · exact h.wts p hp
    · rw [List.mem_singleton] at hp
      subst hp
      exact ⟨hi, hb⟩
  · exact h.down
theorem Dk.Ok.land {s : Dk} (h : s.Ok) (p : Nat × List Int) (hb : IsBlk p.2) : (s.land p).Ok := by
  refine ⟨by rw [s.land_len]; exact h.n1, by rw [s.land_len]; exact h.n2, ?_, fun i hi => ?_, fun q hq => ?_, h.f0, h.f1⟩
  · unfold Dk.land; simp [h.nb]
  · rw [s.land_len] at hi
    unfold Dk.land
    show IsBlk ((s.blk.set p.1 p.2).getD i [])
    rw [getD_setL _ _ _ _ _ hi]
    split
    · exact hb
    · exact h.blks i hi
  · rw [s.land_len]; exact h.wts q hq
theorem Dk.Ok.tear {s : Dk} (h : s.Ok) (i : Nat) : (s.tear i).Ok := ⟨h.n1, h.n2, by unfold Dk.tear; simp [h.nb], h.blks, h.wts, h.f0, h.f1⟩
theorem Dk.land_wt (s : Dk) (p) : (s.land p).wt = s.wt := rfl
theorem Dk.Ok.lands {l : List (Nat × List Int)} : ∀ {s : Dk}, s.Ok → (∀ p, p ∈ l → IsBlk p.2) → (s.lands l).Ok := by
  induction l with
  | nil => intro s h _; exact h
  | cons p r ih => intro s h hp; rw [Dk.lands_cons]; exact ih (h.land p (hp p (by simp))) (fun q hq => hp q (by simp [hq]))
theorem Dk.lands_same (l : List (Nat × List Int)) : ∀ s : Dk, (s.lands l).wt = s.wt ∧ (s.lands l).fuse = s.fuse ∧ (s.lands l).off = s.off ∧ (s.lands l).wrote = s.wrote ∧ (s.lands l).blk.length = s.blk.length := by
  induction l with
  | nil => intro s; exact ⟨rfl, rfl, rfl, rfl, rfl⟩
  | cons p r ih =>
    intro s
    rw [Dk.lands_cons]
    obtain ⟨h1, h2, h3, h4, h5⟩ := ih (s.land p)
    exact ⟨h1, h2, h3, h4, by rw [h5, s.land_len]⟩
theorem Dk.Ok.flush {s : Dk} (h : s.Ok) : s.flush.Ok := by
  unfold Dk.flush
  split
  · have k := Dk.Ok.lands (l := s.wt) h.burn (fun p hp => (h.wts p hp).2)
    exact ⟨k.n1, k.n2, k.nb, k.blks, fun p hp => by simp at hp, k.f0, k.f1⟩
  · exact h.down
theorem Dk.Ok.bootOne {s : Dk} (h : s.Ok) (p : Nat × List Int) (hb : IsBlk p.2) (x : Int) : (s.bootOne p x).Ok := by
  unfold Dk.bootOne
  split
  · exact h.land p hb
  · split
    · exact h.tear _
    · exact h
theorem Dk.bootOne_same (s : Dk) (p) (x : Int) : (s.bootOne p x).wt = s.wt ∧ (s.bootOne p x).wrote = s.wrote ∧ (s.bootOne p x).blk.length = s.blk.length := by
  unfold Dk.bootOne
  split
  · exact ⟨rfl, rfl, s.land_len p⟩
  · split
    · exact ⟨rfl, rfl, rfl⟩
    · exact ⟨rfl, rfl, rfl⟩
theorem Dk.boots_same (how : List Int) (l : List (Nat × List Int)) : ∀ k (s : Dk), (Dk.boots how k l s).wt = s.wt ∧ (Dk.boots how k l s).wrote = s.wrote ∧ (Dk.boots how k l s).blk.length = s.blk.length := by
  induction l with
  | nil => intro k s; exact ⟨rfl, rfl, rfl⟩
  | cons p r ih =>
    intro k s
    unfold Dk.boots
    obtain ⟨h1, h2, h3⟩ := ih (k + 1) (s.bootOne p (how.getD k 0))
    obtain ⟨e1, e2, e3⟩ := s.bootOne_same p (how.getD k 0)
    exact ⟨h1.trans e1, h2.trans e2, h3.trans e3⟩
theorem Dk.Ok.boots {how : List Int} {l : List (Nat × List Int)} : ∀ {k : Nat} {s : Dk}, s.Ok → (∀ p, p ∈ l → IsBlk p.2) → (Dk.boots how k l s).Ok := by
  induction l with
  | nil => intro k s h _; exact h
  | cons p r ih => intro k s h hp; unfold Dk.boots; exact ih (h.bootOne p (hp p (by simp)) _) (fun q hq => hp q (by simp [hq]))
theorem Dk.Ok.boot {s : Dk} (h : s.Ok) (how : List Int) : (s.boot how).Ok := by
  have k := Dk.Ok.boots (how := how) (k := 0) (l := s.wt) h (fun p hp => (h.wts p hp).2)
  exact ⟨k.n1, k.n2, k.nb, k.blks, fun p hp => by unfold Dk.boot at hp; simp at hp, by unfold Dk.boot; simp, by unfold Dk.boot; simp⟩
theorem Dk.boots_snoc (how : List Int) (l : List (Nat × List Int)) (p) : ∀ k (s : Dk), Dk.boots how k (l ++ [p]) s = (Dk.boots how k l s).bootOne p (how.getD (k + l.length) 0) := by
  induction l with
  | nil => intro k s; rfl
  | cons q r ih =>
    intro k s
    show Dk.boots how (k + 1) (r ++ [p]) _ = _
    rw [ih]
    show _ = (Dk.boots how (k + 1) r _).bootOne p _
    congr 2
    simp; omega
theorem IsBlk.set {b : List Int} (h : IsBlk b) (k : Nat) (x : Int) (hx : U8 x) : IsBlk (b.set k x) := by
  refine ⟨by rw [List.length_set]; exact h.1, fun j hj => ?_⟩
  rw [List.length_set] at hj
  rw [getD_setL _ _ _ _ _ hj]
  split
  · exact hx
  · exact h.2 j hj
theorem IsBlk.burst {b : List Int} (h : IsBlk b) (a : Nat) (x : B32) : IsBlk (burstB b a x) := by
  unfold burstB
  exact (((h.set _ _ (xorB_U8 _ _)).set _ _ (xorB_U8 _ _)).set _ _ (xorB_U8 _ _)).set _ _ (xorB_U8 _ _)
theorem Dk.Ok.burst {s : Dk} (h : s.Ok) (i a : Nat) (x : B32) (hi : i < s.blk.length) : (s.burst i a x).Ok := by
  refine ⟨by unfold Dk.burst; simp [h.n1], by unfold Dk.burst; simp [h.n2], by unfold Dk.burst; simp [h.nb], fun j hj => ?_, fun q hq => ?_, h.f0, h.f1⟩
  · unfold Dk.burst at hj ⊢
    simp only [List.length_set] at hj
    show IsBlk ((s.blk.set i _).getD j [])
    rw [getD_setL _ _ _ _ _ hj]
    split
    · exact (h.blks i hi).burst a x
    · exact h.blks j hj
  · unfold Dk.burst; simp only [List.length_set]; exact h.wts q hq
theorem getD_repl {α : Type} (n i : Nat) (x d : α) (h : i < n) : (List.replicate n x).getD i d = x := by
  rw [List.getD_eq_getElem?_getD, List.getElem?_replicate, if_pos h]; rfl
theorem Dk.Ok.new {n : Nat} (h1 : 1 ≤ n) (h2 : n ≤ 512) : (Dk.new n).Ok := by
  refine ⟨by unfold Dk.new; simp [h1], by unfold Dk.new; simp [h2], by unfold Dk.new; simp, fun i hi => ?_, fun p hp => by unfold Dk.new at hp; simp at hp, by unfold Dk.new; simp, by unfold Dk.new; simp⟩
  unfold Dk.new at hi ⊢
  simp only [List.length_replicate] at hi
  show IsBlk ((List.replicate n (fillB 0)).getD i [])
  rw [getD_repl _ _ _ _ hi]
  exact IsBlk.fill ⟨by decide, by decide⟩

/-! ## Reading -/
theorem lastFor_nil (i : Nat) : lastFor [] i = none := rfl
theorem lastFor_snoc (l : List (Nat × List Int)) (p : Nat × List Int) (i : Nat) : lastFor (l ++ [p]) i = if p.1 = i then some p.2 else lastFor l i := by
  unfold lastFor; rw [List.foldl_append]; rfl
/-- A disk's face, whose power is on and which has no fuse: what each block reads as. -/
theorem Dk.goes_of {s : Dk} (h1 : s.off = false) (h2 : s.fuse ≠ 0) : s.goes = true := by unfold Dk.goes; simp [h1, h2]
theorem Dk.write_goes {s : Dk} (h : s.goes = true) (i b) : s.write i b = { s.burn with wt := s.wt ++ [(i, b)], wrote := s.wrote + 1 } := by unfold Dk.write; rw [if_pos h]
theorem Dk.read_write {s : Dk} (h : s.goes = true) (i j b) : (s.write i b).read j = if i = j then some b else s.read j := by
  rw [Dk.write_goes h]
  have ho : s.off = false := by unfold Dk.goes at h; simp at h; exact h.1
  unfold Dk.read Dk.burn
  simp only [ho, lastFor_snoc]
  by_cases e : i = j
  · simp [e]
  · simp [e]
theorem snoc_ind {α : Type} {P : List α → Prop} (h0 : P []) (h1 : ∀ l a, P l → P (l ++ [a])) : ∀ l, P l := by
  intro l
  rw [← List.reverse_reverse l]
  induction l.reverse with
  | nil => exact h0
  | cons a r ih => rw [List.reverse_cons]; exact h1 _ _ ih
theorem Dk.lands_read (j : Nat) (l : List (Nat × List Int)) : ∀ (s : Dk), s.bad.length = s.blk.length → j < s.blk.length → s.wt = [] → s.off = false → (∀ p, p ∈ l → p.1 < s.blk.length) → (s.lands l).read j = (match lastFor l j with | some b => some b | none => s.read j) := by
  refine snoc_ind (P := fun l => ∀ (s : Dk), s.bad.length = s.blk.length → j < s.blk.length → s.wt = [] → s.off = false → (∀ p, p ∈ l → p.1 < s.blk.length) → (s.lands l).read j = (match lastFor l j with | some b => some b | none => s.read j)) ?_ ?_ l
  · intro s _ _ _ _ _; rfl
  · intro l p ih s hb hj hw ho hp
    have ih := ih s hb hj hw ho (fun q hq => hp q (by simp [hq]))
    rw [Dk.lands_snoc, lastFor_snoc]
    obtain ⟨e1, e2, e3, e4, e5⟩ := s.lands_same l
    have hbl : (s.lands l).bad.length = s.blk.length := by
      clear ih
      have : ∀ (l : List (Nat × List Int)) (s : Dk), (s.lands l).bad.length = s.bad.length := by
        intro l
        induction l with
        | nil => intro s; rfl
        | cons p r ih => intro s; rw [Dk.lands_cons, ih]; unfold Dk.land; simp
      rw [this, hb]
    generalize s.lands l = t at *
    have r1 : (t.land p).read j = if p.1 = j then some p.2 else t.read j := by
      unfold Dk.read Dk.land
      simp only [e1, e3, hw, ho, lastFor_nil, getD_setB]
      by_cases e : p.1 = j
      · subst e
        simp [hbl, hj, e5]
      · simp [e]
    rw [r1, ih]
    by_cases e : p.1 = j
    · simp [e]
    · simp [e]
theorem Dk.lands_wt (v : List (Nat × List Int)) (l : List (Nat × List Int)) : ∀ s : Dk, { s.lands l with wt := v } = Dk.lands { s with wt := v } l := by
  induction l with
  | nil => intro s; rfl
  | cons p r ih => intro s; rw [Dk.lands_cons, Dk.lands_cons, ih]; rfl
theorem Dk.goes_off {s : Dk} (h : s.goes = true) : s.off = false := by unfold Dk.goes at h; simp at h; exact h.1
theorem Dk.flush_goes {s : Dk} (h : s.goes = true) : s.flush = Dk.lands { s.burn with wt := [] } s.wt := by unfold Dk.flush; rw [if_pos h, Dk.lands_wt]
theorem Dk.read_flush {s : Dk} (h : s.goes = true) (ok : s.Ok) (j : Nat) (hj : j < s.blk.length) : s.flush.read j = s.read j := by
  have ho := Dk.goes_off h
  rw [Dk.flush_goes h, Dk.lands_read j s.wt { s.burn with wt := [] } ok.nb hj rfl ho (fun p hp => (ok.wts p hp).1)]
  unfold Dk.read Dk.burn
  simp only [ho, lastFor_nil]
  cases lastFor s.wt j with
  | some b => rfl
  | none => rfl
theorem Dk.says_goes {s : Dk} (h : s.goes = true) : s.says = 0 := by unfold Dk.says; rw [if_pos h]
/-- No fuse, the power on: it stays so. -/
structure Dk.Free (s : Dk) : Prop where
  off : s.off = false
  fuse : s.fuse = -1
theorem Dk.Free.goes {s : Dk} (h : s.Free) : s.goes = true := Dk.goes_of h.off (by rw [h.fuse]; decide)
theorem Dk.Free.burn {s : Dk} (h : s.Free) : s.burn = s := by
  unfold Dk.burn; rw [h.fuse]
  show ({ s with fuse := -1 } : Dk) = s
  rw [← h.fuse]
theorem Dk.Free.write {s : Dk} (h : s.Free) (i b) : s.write i b = { s with wt := s.wt ++ [(i, b)], wrote := s.wrote + 1 } := by rw [Dk.write_goes h.goes, h.burn]
theorem Dk.Free.write' {s : Dk} (h : s.Free) (i b) : (s.write i b).Free := by rw [h.write]; exact ⟨h.off, h.fuse⟩
theorem Dk.Free.flush {s : Dk} (h : s.Free) : s.flush = Dk.lands { s with wt := [] } s.wt := by rw [Dk.flush_goes h.goes, h.burn]
theorem Dk.Free.flush' {s : Dk} (h : s.Free) : s.flush.Free := by
  rw [h.flush]
  obtain ⟨e1, e2, e3, e4, e5⟩ := Dk.lands_same s.wt { s with wt := [] }
  exact ⟨e3.trans h.off, e2.trans h.fuse⟩
theorem Dk.Free.new (n : Nat) : (Dk.new n).Free := ⟨rfl, rfl⟩
theorem Dk.Free.boot (s : Dk) (how) : (s.boot how).Free := ⟨rfl, rfl⟩
end Go.Proofs.Ytilmicekpclmbaa
