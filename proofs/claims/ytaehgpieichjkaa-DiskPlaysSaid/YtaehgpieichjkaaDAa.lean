/-
  The program's disk in memory: a struct, a row of blocks, a row of writes that wait; its small functions.
-/
import Derived.Test.YtaehgpieichjkaaFlat
import Derived.Lib.MinMax
import Derived.WalkSmall
import Derived.Deep.QuietTactic
namespace Go.Proofs.Ytaehgpieichjkaa
set_option linter.unusedVariables false
set_option linter.unusedSimpArgs false
open Go.RowKit

def dkCells (s : Dk) (g cb : Nat) (A : Option Addr) (c : Nat) : List Value := [.slice (some ⟨g, 0, none⟩) s.blk.length cb, .slice A s.wt.length c, .int .i64 s.fuse, .bool s.off, .int .i64 (s.wrote : Int)]
/-- Where its parts lie: its blocks' row at g, what waits at A. -/
structure Lay (w : World) (F : Nat → Prop) (b : Nat) (s : Dk) (g cb : Nat) (A : Option Addr) (c : Nat) : Prop where
  ok : s.Ok
  st : Arr w b 61 (dkCells s g cb A c)
  rb : RowN w 0 68 129 (some ⟨g, 0, none⟩) s.blk.length cb (bl s).flatten
  rw' : RowN w 0 65 129 A s.wt.length c (wl s.wt).flatten
  fb : F b
  fg : F g
  fA : InF F A
  lt : ∀ k, F k → k < w.heap.size
def DiskAt (w : World) (F : Nat → Prop) (b : Nat) (s : Dk) : Prop := ∃ g cb A c, Lay w F b s g cb A c
theorem Lay.stay {w w' : World} {F : Nat → Prop} {b : Nat} {s : Dk} {g cb : Nat} {A : Option Addr} {c : Nat} (h : Lay w F b s g cb A c) (k : ∀ j, F j → w'.heap[j]? = w.heap[j]?) : Lay w' F b s g cb A c where
  ok := h.ok
  st := h.st.same (k b h.fb)
  rb := h.rb.same (fun a ha => by injection ha with ha; subst ha; exact k _ h.fg)
  rw' := h.rw'.same (fun a ha => k _ (h.fA a ha))
  fb := h.fb
  fg := h.fg
  fA := h.fA
  lt := fun j hj => by
    have h1 := h.lt j hj
    rcases Nat.lt_or_ge j w'.heap.size with e | e
    · exact e
    · have := k j hj
      rw [Array.getElem?_eq_none (by exact e), Array.getElem?_eq_getElem h1] at this
      cases this
theorem DiskAt.ok {w F b s} (h : DiskAt w F b s) : s.Ok := by obtain ⟨_, _, _, _, h⟩ := h; exact h.ok
theorem DiskAt.lt {w F b s} (h : DiskAt w F b s) : ∀ k, F k → k < w.heap.size := by obtain ⟨_, _, _, _, h⟩ := h; exact h.lt
theorem DiskAt.stay {w w' : World} {F b s} (h : DiskAt w F b s) (k : ∀ k, F k → w'.heap[k]? = w.heap[k]?) : DiskAt w' F b s := by obtain ⟨g, cb, A, c, h⟩ := h; exact ⟨g, cb, A, c, h.stay k⟩
def Step (F : Nat → Prop) (b : Nat) (s' : Dk) (w w' : World) : Prop := ∃ F', DiskAt w' F' b s' ∧ Keep F w w' ∧ Sub F' F w
theorem Step.same {F b s w} (h : DiskAt w F b s) : Step F b s w w := ⟨F, h, Keep.refl _ _, Sub.refl _ _⟩
theorem drewN_heap (w : World) (m : Nat) : (w.drewN m).heap = w.heap := rfl
theorem Step.drew {F b s w} (h : DiskAt w F b s) (m : Nat) : Step F b s w (w.drewN m) := ⟨F, h.stay (fun _ _ => rfl), ⟨rfl, rfl, rfl, Nat.le_refl _, fun _ _ _ => rfl⟩, Sub.refl _ _⟩
theorem Step.on {F F1 b s w w1 w2} (k1 : Keep F w w1) (s1 : Sub F1 F w) (h : Step F1 b s w1 w2) : Step F b s w w2 := by
  obtain ⟨F2, h2, k2, s2⟩ := h
  exact ⟨F2, h2, k1.trans s1 k2, s1.trans s2 k1.size⟩
/-- The rows lie apart from the struct and from each other. -/
theorem Lay.bg {w F b s g cb A c} (h : Lay w F b s g cb A c) : g ≠ b := h.rb.ne h.st (by decide) _ rfl
theorem Lay.bA {w F b s g cb A c} (h : Lay w F b s g cb A c) (a : Addr) (ha : A = some a) : a.block ≠ b := h.rw'.ne h.st (by decide) a ha
theorem Lay.gA {w F b s g cb A c} (h : Lay w F b s g cb A c) (a : Addr) (ha : A = some a) : a.block ≠ g := by
  obtain ⟨cur, e⟩ := h.rb.kind _ rfl
  exact h.rw'.ne e (by decide) a ha
/-- One of its words is written anew. -/
theorem Lay.word {w : World} {F : Nat → Prop} {b : Nat} {s s' : Dk} {g cb : Nat} {A : Option Addr} {c : Nat} (h : Lay w F b s g cb A c) (k : Nat) (v : Value) (hb : s'.blk = s.blk) (hd : s'.bad = s.bad) (hw : s'.wt = s.wt) (ho : s'.Ok) (hv : (dkCells s g cb A c).set k v = dkCells s' g cb A c) : Lay (w.setCell ⟨b, k, none⟩ v) F b s' g cb A c where
  ok := ho
  st := by have := h.st.set k v; rw [hv] at this; exact this
  rb := by
    have e : bl s' = bl s := by unfold bl; rw [hb, hd]
    rw [e, hb]
    exact h.rb.other (fun a ha => by injection ha with ha; subst ha; exact h.bg) v
  rw' := by rw [hw]; exact h.rw'.other h.bA v
  fb := h.fb
  fg := h.fg
  fA := h.fA
  lt := fun j hj => by rw [setCell_size]; exact h.lt j hj

theorem has_any (w : World) (b : Nat) (n : Nat) (X : Option Addr) (cb : Nat) (i : Int) (c0 : w.cell? ⟨b, 0, none⟩ = some (.slice X n cb)) (hn : n ≤ 512) (h0 : -9223372036854775808 ≤ i) (h1 : i ≤ 9223372036854775807) :
    Calls Try.prog 30 #[.pointer (some ⟨b, 0, none⟩), .int .i64 i] w fun e w' => e = .returned (.bool (decide (0 ≤ i ∧ i < n))) ∧ w' = w := by
  go_enter Try.func30, Try.ntmps30
  by_cases t1 : 0 ≤ i
  · have d1 : decide (0 ≤ i) = true := by simpa using t1
    have d2 : decide (i ≥ 0) = true := by simpa using t1
    obtain ⟨q, hq⟩ : ∃ q, decide (i < (n : Int)) = q := ⟨_, rfl⟩
    have e : decide (0 ≤ i ∧ i < (n : Int)) = q := by rw [← hq]; simp [t1]
    have E := Lib.hid e
    clear e t1
    go_wp2
    go_ret
    exact ⟨by rw [E.out]; rfl, rfl⟩
  · have d1 : decide (0 ≤ i) = false := by simpa using t1
    have d2 : decide (i ≥ 0) = false := by simpa using t1
    have e : decide (0 ≤ i ∧ i < (n : Int)) = false := by rw [decide_eq_false_iff_not]; omega
    have E := Lib.hid e
    clear e t1
    go_wp2
    go_ret
    exact ⟨by rw [E.out]; rfl, rfl⟩
set_option maxHeartbeats 400000 in
theorem goes_any (F : Nat → Prop) (b : Nat) (s : Dk) (g cb : Nat) (A : Option Addr) (c : Nat) (w : World) (h : Lay w F b s g cb A c) :
    Calls Try.prog 31 #[.pointer (some ⟨b, 0, none⟩)] w fun e w' => e = .returned (.bool s.goes) ∧ Lay w' F b s.asked g cb A c ∧ Keep F w w' := by
  have c2 : w.cell? ⟨b, 2, none⟩ = some (.int .i64 s.fuse) := h.st.cell 2
  have c3 : w.cell? ⟨b, 3, none⟩ = some (.bool s.off) := h.st.cell 3
  have z2 := h.st.frozen 2
  have z3 := h.st.frozen 3
  have f0 := h.ok.f0
  have f1 := h.ok.f1
  have hdn : Lay (w.setCell ⟨b, 3, none⟩ (.bool true)) F b s.down g cb A c := h.word 3 (.bool true) rfl rfl rfl h.ok.down rfl
  have HDN := Lib.hid hdn; have H := Lib.hid h
  clear hdn h
  go_enter Try.func31, Try.ntmps31
  by_cases hf : s.fuse = 0
  · have hg : s.goes = false := by unfold Dk.goes; simp [hf]
    have HG := Lib.hid hg
    rw [hf] at c2
    clear hg hf
    have y3 : (w.setCell ⟨b, 3, none⟩ (.bool true)).cell? ⟨b, 3, none⟩ = some (.bool true) := HDN.out.st.cell 3
    go_wp2
    go_ret
    exact ⟨by rw [HG.out]; rfl, by rw [Dk.asked_no HG.out]; exact HDN.out, (Keep.refl F w).setCell H.out.fb _⟩
  · cases ho : s.off
    · rw [ho] at c3
      have hg : s.goes = true := by unfold Dk.goes; simp [ho, hf]
      have HG := Lib.hid hg
      by_cases hp : 0 < s.fuse
      · have hb : Lay (w.setCell ⟨b, 2, none⟩ (.int .i64 (s.fuse - 1))) F b s.burn g cb A c := H.out.word 2 _ rfl rfl rfl H.out.ok.burn (by unfold dkCells Dk.burn; rw [if_pos hp]; rfl)
        have HB := Lib.hid hb
        have t1 : (s.fuse == 0) = false := by simpa using hf
        have t2 : decide (0 < s.fuse) = true := by simpa using hp
        have t3 : decide (s.fuse > 0) = true := by simpa using hp
        clear hg ho hf hb
        generalize s.fuse = fu at *
        go_wp2
        go_ret
        exact ⟨by rw [HG.out]; rfl, by rw [Dk.asked_yes HG.out]; exact HB.out, (Keep.refl F w).setCell H.out.fb _⟩
      · have hb : s.burn = s := by unfold Dk.burn; rw [if_neg hp]
        have HB := Lib.hid hb
        have t1 : (s.fuse == 0) = false := by simpa using hf
        have t2 : decide (0 < s.fuse) = false := by simpa using hp
        have t3 : decide (s.fuse > 0) = false := by simpa using hp
        clear hg ho hf hb
        generalize s.fuse = fu at *
        go_wp2
        go_ret
        exact ⟨by rw [HG.out]; rfl, by rw [Dk.asked_yes HG.out, HB.out]; exact H.out, Keep.refl F w⟩
    · rw [ho] at c3
      have hg : s.goes = false := by unfold Dk.goes; simp [ho]
      have HG := Lib.hid hg
      have e : s.down = s := by unfold Dk.down; cases s; simp at ho; subst ho; rfl
      have E := Lib.hid e
      have t1 : (s.fuse == 0) = false := by simpa using hf
      clear hg ho e hf
      generalize s.fuse = fu at *
      go_wp2
      go_ret
      exact ⟨by rw [HG.out]; rfl, by rw [Dk.asked_no HG.out, E.out]; exact H.out, Keep.refl F w⟩
theorem disk_waits (F b s) (w : World) (h : DiskAt w F b s) (hw : s.wt.length ≤ 1000000) : Calls Try.prog 25 #[.pointer (some ⟨b, 0, none⟩)] w fun e w' => e = .returned (.int .i64 s.wt.length) ∧ ∃ m, w' = w.drewN m := by
  obtain ⟨g, cb, A, c, h⟩ := h
  have c1 : w.cell? ⟨b, 1, none⟩ = some (.slice A s.wt.length c) := h.st.cell 1
  clear h
  generalize s.wt.length = q at *
  go_enter Try.func25, Try.ntmps25
  go_wp2
  go_ret
  exact ⟨rfl, 0, rfl⟩
theorem disk_off (F b s) (w : World) (h : DiskAt w F b s) : Calls Try.prog 26 #[.pointer (some ⟨b, 0, none⟩)] w fun e w' => e = .returned (.bool s.off) ∧ ∃ m, w' = w.drewN m := by
  obtain ⟨g, cb, A, c, h⟩ := h
  have c1 : w.cell? ⟨b, 3, none⟩ = some (.bool s.off) := h.st.cell 3
  clear h
  generalize s.off = q at *
  go_enter Try.func26, Try.ntmps26
  go_wp2
  go_ret
  exact ⟨rfl, 0, rfl⟩
theorem disk_wrote (F b s) (w : World) (h : DiskAt w F b s) : Calls Try.prog 16 #[.pointer (some ⟨b, 0, none⟩)] w fun e w' => e = .returned (.int .i64 s.wrote) ∧ ∃ m, w' = w.drewN m := by
  obtain ⟨g, cb, A, c, h⟩ := h
  have c1 : w.cell? ⟨b, 4, none⟩ = some (.int .i64 (s.wrote : Int)) := h.st.cell 4
  clear h
  generalize s.wrote = q at *
  go_enter Try.func16, Try.ntmps16
  go_wp2
  go_ret
  exact ⟨rfl, 0, rfl⟩
theorem disk_len (F b s) (w : World) (h : DiskAt w F b s) : Calls Try.prog 27 #[.pointer (some ⟨b, 0, none⟩)] w fun e w' => e = .returned (.int .i64 s.blk.length) ∧ ∃ m, w' = w.drewN m := by
  obtain ⟨g, cb, A, c, h⟩ := h
  have c1 : w.cell? ⟨b, 0, none⟩ = some (.slice (some ⟨g, 0, none⟩) s.blk.length cb) := h.st.cell 0
  clear h
  generalize s.blk.length = q at *
  go_enter Try.func27, Try.ntmps27
  go_wp2
  go_ret
  exact ⟨rfl, 0, rfl⟩
theorem disk_arm (F b s) (n : Int) (w : World) (h : DiskAt w F b s) (h0 : -9223372036854775808 ≤ n) (h1 : n ≤ 9223372036854775807) : Calls Try.prog 21 #[.pointer (some ⟨b, 0, none⟩), .int .i64 n] w fun e w' => e = .returned (.tuple #[]) ∧ Step F b (s.arm n) w w' := by
  obtain ⟨g, cb, A, c, h⟩ := h
  have c2 : w.cell? ⟨b, 2, none⟩ = some (.int .i64 s.fuse) := h.st.cell 2
  have z2 := h.st.frozen 2
  obtain ⟨m, hm⟩ : ∃ m : Int, m = max n (-1) := ⟨_, rfl⟩
  have S : Hid (Step F b (s.arm n) w (w.setCell ⟨b, 2, none⟩ (.int .i64 m))) := Lib.hid ⟨F, ⟨g, cb, A, c, h.word 2 (.int .i64 m) rfl rfl rfl (h.ok.arm n h1) (by unfold dkCells Dk.arm; have : m = if n < -1 then -1 else n := (by rw [hm]; split <;> omega); rw [this]; rfl)⟩, (Keep.refl F w).setCell h.fb _, Sub.refl _ _⟩
  have hm' : max n (-1) = m := hm.symm
  clear h hm
  generalize s.fuse = fu at *
  go_enter Try.func21, Try.ntmps21
  go_wp2
  go_end0
  exact ⟨rfl, S.out⟩
end Go.Proofs.Ytaehgpieichjkaa
