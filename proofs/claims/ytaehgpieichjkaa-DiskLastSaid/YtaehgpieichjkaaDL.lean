/-
  A disk without a fuse behind writes and flushes: what its blocks read as.
-/
import Derived.Test.YtaehgpieichjkaaDk
namespace Go.Proofs.Ytaehgpieichjkaa
set_option linter.unusedVariables false
set_option linter.unusedSimpArgs false

namespace DL
/-- The disk of n blocks behind at most i writes: what each block reads as. -/
structure LastI (n i : Nat) (s : Dk) (hs : List Int) : Prop where
  len : s.blk.length = n
  free : s.Free
  wt : s.wt.length ≤ i
  wrote : s.wrote ≤ i
  hl : hs.length = n
  hu : ∀ k, k < n → U8 (hs.getD k 0)
  rd : ∀ k, k < n → s.read k = some (fillB (hs.getD k 0))
theorem start (n : Nat) : LastI n 0 (Dk.new n) (List.replicate n 0) := by
  refine ⟨by unfold Dk.new; simp, Dk.Free.new n, Nat.le_refl _, Nat.le_refl _, by simp, fun k hk => ?_, fun k hk => ?_⟩
  · rw [getD_repl _ _ _ _ hk]; exact ⟨by decide, by decide⟩
  · rw [getD_repl _ _ _ _ hk]
    unfold Dk.read Dk.new
    simp only [lastFor_nil]
    rw [getD_repl _ _ _ _ hk, getD_repl _ _ _ _ hk]
    rfl
theorem LastI.write {n i : Nat} {s : Dk} {hs : List Int} (h : LastI n i s hs) (k : Nat) (x : Int) (hk : k < n) (hx : U8 x) : LastI n (i + 1) (s.write k (fillB x)) (hs.set k x) := by
  refine ⟨by rw [h.free.write]; exact h.len, h.free.write' _ _, ?_, ?_, by rw [List.length_set]; exact h.hl, fun j hj => ?_, fun j hj => ?_⟩
  · rw [h.free.write]; have := h.wt; simp; exact this
  · rw [h.free.write]; have := h.wrote; show s.wrote + 1 ≤ _; omega
  · rw [getD_setL _ _ _ _ _ (by rw [h.hl]; exact hj)]
    split
    · exact hx
    · exact h.hu j hj
  · rw [Dk.read_write h.free.goes, getD_setL _ _ _ _ _ (by rw [h.hl]; exact hj)]
    split
    · rfl
    · exact h.rd j hj
theorem flush_wt {s : Dk} (h : s.Free) : s.flush.wt = [] := by
  obtain ⟨e1, e2, e3, e4, e5⟩ := Dk.lands_same s.wt { s with wt := [] }
  rw [h.flush, e1]
theorem flush_wrote {s : Dk} (h : s.Free) : s.flush.wrote = s.wrote := by
  obtain ⟨e1, e2, e3, e4, e5⟩ := Dk.lands_same s.wt { s with wt := [] }
  rw [h.flush, e4]
theorem flush_len {s : Dk} (h : s.Free) : s.flush.blk.length = s.blk.length := by
  obtain ⟨e1, e2, e3, e4, e5⟩ := Dk.lands_same s.wt { s with wt := [] }
  rw [h.flush, e5]
theorem LastI.flush {n i : Nat} {s : Dk} {hs : List Int} (h : LastI n i s hs) (ok : s.Ok) : LastI n i s.flush hs := by
  refine ⟨by rw [flush_len h.free]; exact h.len, h.free.flush', by rw [flush_wt h.free]; exact Nat.zero_le _, by rw [flush_wrote h.free]; exact h.wrote, h.hl, h.hu, fun j hj => ?_⟩
  rw [Dk.read_flush h.free.goes ok j (by rw [h.len]; exact hj)]
  exact h.rd j hj

/-! ## What a boot leaves -/
theorem boots_with (how : List Int) (v : List (Nat × List Int)) (m : Nat) (l : List (Nat × List Int)) : ∀ (k : Nat) (s : Dk), Dk.boots how k l { s with wt := v, wrote := m } = { Dk.boots how k l s with wt := v, wrote := m } := by
  induction l with
  | nil => intro k s; rfl
  | cons p r ih =>
    intro k s
    unfold Dk.boots
    rw [← ih]
    congr 1
    unfold Dk.bootOne
    split
    · rfl
    · split <;> rfl
/-- The disk behind a flush and j writes, and what a boot would make of it. -/
structure KeepI (how : List Int) (n m j : Nat) (s : Dk) (hs : List Int) (ts : List Bool) : Prop where
  len : s.blk.length = n
  free : s.Free
  wt : s.wt.length = j
  wrote : s.wrote ≤ m + j
  hl : hs.length = n
  tl : ts.length = n
  hu : ∀ k, k < n → U8 (hs.getD k 0)
  bl : (Dk.boots how 0 s.wt s).bad.length = n
  bd : ∀ k, k < n → (Dk.boots how 0 s.wt s).bad.getD k false = ts.getD k false
  bk : ∀ k, k < n → (Dk.boots how 0 s.wt s).blk.getD k [] = fillB (hs.getD k 0)
theorem LastI.keeps {n i : Nat} {s : Dk} {hs : List Int} (h : LastI n i s hs) (ok : s.Ok) (how : List Int) : KeepI how n i 0 s.flush hs (List.replicate n false) := by
  have h2 := h.flush ok
  have ok2 := ok.flush
  have hw := flush_wt h.free
  have hr : ∀ k, k < n → s.flush.bad.getD k false = false ∧ s.flush.blk.getD k [] = fillB (hs.getD k 0) := fun k hk => by
    have := h2.rd k hk
    unfold Dk.read at this
    rw [h2.free.off, hw, lastFor_nil] at this
    cases hb : s.flush.bad.getD k false
    · rw [hb] at this
      simp only [Bool.false_eq_true, if_false] at this
      exact ⟨rfl, by injection this⟩
    · rw [hb] at this
      simp at this
  refine ⟨h2.len, h2.free, by rw [hw]; rfl, h2.wrote, h.hl, by simp, h.hu, by rw [hw]; show s.flush.bad.length = n; rw [ok2.nb, h2.len], fun k hk => ?_, fun k hk => ?_⟩
  · rw [hw, getD_repl _ _ _ _ hk]; exact (hr k hk).1
  · rw [hw]; exact (hr k hk).2
theorem KeepI.write {how : List Int} {n m j : Nat} {s : Dk} {hs : List Int} {ts : List Bool} (h : KeepI how n m j s hs ts) (k : Nat) (x : Int) (hk : k < n) (hx : U8 x) (c : Int) (hc : how.getD j 0 % 3 = c) :
    KeepI how n m (j + 1) (s.write k (fillB x)) (if c = 1 then hs.set k x else hs) (if c = 1 then ts.set k false else if c = 2 then ts.set k true else ts) := by
  have hb : Dk.boots how 0 (s.write k (fillB x)).wt (s.write k (fillB x)) = { (Dk.boots how 0 s.wt s).bootOne (k, fillB x) (how.getD j 0) with wt := s.wt ++ [(k, fillB x)], wrote := s.wrote + 1 } := by
    rw [h.free.write]
    show Dk.boots how 0 (s.wt ++ [(k, fillB x)]) { s with wt := s.wt ++ [(k, fillB x)], wrote := s.wrote + 1 } = _
    rw [boots_with, Dk.boots_snoc, Nat.zero_add, h.wt]
  have hlen : (Dk.boots how 0 s.wt s).blk.length = n := by rw [(Dk.boots_same how s.wt 0 s).2.2]; exact h.len
  refine ⟨by rw [h.free.write]; exact h.len, h.free.write' _ _, by rw [h.free.write]; simp [h.wt], by rw [h.free.write]; have := h.wrote; show s.wrote + 1 ≤ _; omega, ?_, ?_, fun i hi => ?_, ?_, fun i hi => ?_, fun i hi => ?_⟩
  · split
    · rw [List.length_set]; exact h.hl
    · exact h.hl
  · split
    · rw [List.length_set]; exact h.tl
    · split
      · rw [List.length_set]; exact h.tl
      · exact h.tl
  · split
    · rw [getD_setL _ _ _ _ _ (by rw [h.hl]; exact hi)]
      split
      · exact hx
      · exact h.hu i hi
    · exact h.hu i hi
  · rw [hb]
    show ((Dk.boots how 0 s.wt s).bootOne (k, fillB x) (how.getD j 0)).bad.length = n
    unfold Dk.bootOne
    rw [hc]
    split
    · unfold Dk.land; simp [h.bl]
    · split
      · unfold Dk.tear; simp [h.bl]
      · exact h.bl
  · rw [hb]
    show ((Dk.boots how 0 s.wt s).bootOne (k, fillB x) (how.getD j 0)).bad.getD i false = _
    unfold Dk.bootOne
    rw [hc]
    by_cases c1 : c = 1
    · rw [if_pos c1, if_pos c1]
      unfold Dk.land
      show ((Dk.boots how 0 s.wt s).bad.set k false).getD i false = _
      rw [getD_setL _ _ _ _ _ (by rw [h.bl]; exact hi), getD_setL _ _ _ _ _ (by rw [h.tl]; exact hi), h.bd i hi]
    · rw [if_neg c1, if_neg c1]
      by_cases c2 : c = 2
      · rw [if_pos c2, if_pos c2]
        unfold Dk.tear
        show ((Dk.boots how 0 s.wt s).bad.set k true).getD i false = _
        rw [getD_setL _ _ _ _ _ (by rw [h.bl]; exact hi), getD_setL _ _ _ _ _ (by rw [h.tl]; exact hi), h.bd i hi]
      · rw [if_neg c2, if_neg c2]; exact h.bd i hi
  · rw [hb]
    show ((Dk.boots how 0 s.wt s).bootOne (k, fillB x) (how.getD j 0)).blk.getD i [] = _
    unfold Dk.bootOne
    rw [hc]
    by_cases c1 : c = 1
    · rw [if_pos c1, if_pos c1]
      unfold Dk.land
      show ((Dk.boots how 0 s.wt s).blk.set k (fillB x)).getD i [] = _
      rw [getD_setL _ _ _ _ _ (by rw [hlen]; exact hi), getD_setL _ _ _ _ _ (by rw [h.hl]; exact hi), h.bk i hi]
      split <;> rfl
    · rw [if_neg c1, if_neg c1]
      by_cases c2 : c = 2
      · rw [if_pos c2]
        unfold Dk.tear
        exact h.bk i hi
      · rw [if_neg c2]; exact h.bk i hi
/-- Behind the boot, with the first j blocks written. -/
structure BootI (n m j : Nat) (s : Dk) (hs : List Int) (ts : List Bool) : Prop where
  len : s.blk.length = n
  free : s.Free
  wt : s.wt.length ≤ j
  wrote : s.wrote ≤ m + j
  hl : hs.length = n
  tl : ts.length = n
  hu : ∀ k, k < n → U8 (hs.getD k 0)
  rd : ∀ k, j ≤ k → k < n → s.read k = if ts.getD k false then none else some (fillB (hs.getD k 0))
theorem KeepI.boot {how : List Int} {n m j : Nat} {s : Dk} {hs : List Int} {ts : List Bool} (h : KeepI how n m j s hs ts) : BootI n (m + j) 0 (s.boot how) hs ts := by
  have e := Dk.boots_same how s.wt 0 s
  refine ⟨?_, Dk.Free.boot s how, Nat.zero_le _, ?_, h.hl, h.tl, h.hu, fun k _ hk => ?_⟩
  · unfold Dk.boot; show (Dk.boots how 0 s.wt s).blk.length = n; rw [e.2.2]; exact h.len
  · unfold Dk.boot; show (Dk.boots how 0 s.wt s).wrote ≤ _; rw [e.2.1]; exact h.wrote
  · unfold Dk.boot Dk.read
    show (if false = true then none else match lastFor [] k with | some b => some b | none => if (Dk.boots how 0 s.wt s).bad.getD k false then none else some ((Dk.boots how 0 s.wt s).blk.getD k [])) = _
    rw [lastFor_nil, h.bd k hk, h.bk k hk]
    rfl
theorem BootI.write {n m j : Nat} {s : Dk} {hs : List Int} {ts : List Bool} (h : BootI n m j s hs ts) (b : List Int) : BootI n m (j + 1) (s.write j b) hs ts := by
  refine ⟨by rw [h.free.write]; exact h.len, h.free.write' _ _, by rw [h.free.write]; simp; exact h.wt, by rw [h.free.write]; have := h.wrote; show s.wrote + 1 ≤ _; omega, h.hl, h.tl, h.hu, fun k hj hk => ?_⟩
  rw [Dk.read_write h.free.goes, if_neg (by omega)]
  exact h.rd k (by omega) hk
end DL
end Go.Proofs.Ytaehgpieichjkaa
