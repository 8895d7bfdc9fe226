/-
  What the laws' walks ask of package disk.
-/
import Derived.Test.YtaehgpieichjkaaDAk
namespace Go.Proofs.Ytaehgpieichjkaa
set_option linter.unusedVariables false
set_option linter.unusedSimpArgs false
open Go.RowKit

theorem disk_write (F b s) (i c N : Nat) (A : Option Addr) (xs : List Int) (w : World) (h : DiskAt w F b s) (hi : i < s.blk.length) (hx : IsBlk xs) (hr : RdB w N A xs) (hN : N ≤ w.heap.size) (hA : ∀ a, A = some a → ¬ F a.block) (hw : s.wt.length ≤ 1000000) (hv : s.wrote ≤ 1000000000000) : Calls Try.prog 10 #[.pointer (some ⟨b, 0, none⟩), .int .i64 i, .slice A 128 c] w fun e w' => e = .returned (.int .i64 s.says) ∧ Step F b (s.write i xs) w w' := by
  obtain ⟨g, cb, A', c', h⟩ := h
  exact write_any F b s g cb A' c' i c N A xs w h hi hx hr hN hA hw hv
theorem disk_refuse (F b s) (i : Int) (n c : Nat) (A : Option Addr) (w : World) (h : DiskAt w F b s) (h0 : -9223372036854775808 ≤ i) (h1 : i ≤ 9223372036854775807) (hn : n ≤ maxLen) (hi : i < 0 ∨ s.blk.length ≤ i ∨ n ≠ 128) : Calls Try.prog 10 #[.pointer (some ⟨b, 0, none⟩), .int .i64 i, .slice A n c] w fun e w' => e = .returned (.int .i64 1) ∧ Step F b s w w' := by
  have h' := h
  obtain ⟨g, cb, A', c', h⟩ := h
  refine (refuse_any F b s g cb A' c' i n c A w h h0 h1 hn hi).mono ?_
  rintro e w' ⟨rfl, rfl⟩
  exact ⟨rfl, Step.same h'⟩
theorem disk_flush (F b s) (w : World) (h : DiskAt w F b s) (hw : s.wt.length ≤ 1000000) : Calls Try.prog 14 #[.pointer (some ⟨b, 0, none⟩)] w fun e w' => e = .returned (.int .i64 s.says) ∧ Step F b s.flush w w' := by
  obtain ⟨g, cb, A', c', h⟩ := h
  exact flush_any F b s g cb A' c' w h hw
theorem disk_boot (F b s) (n c N : Nat) (A : Option Addr) (how : List Int) (w : World) (h : DiskAt w F b s) (hl : how.length = n) (hm : n ≤ maxLen) (hr : RdB w N A how) (hN : N ≤ w.heap.size) (hA : ∀ a, A = some a → 0 < n → ¬ F a.block) (hw : s.wt.length ≤ 1000000) : Calls Try.prog 12 #[.pointer (some ⟨b, 0, none⟩), .slice A n c] w fun e w' => e = .returned (.tuple #[]) ∧ Step F b (s.boot how) w w' := by
  obtain ⟨g, cb, A', c', h⟩ := h
  exact boot_any F b s g cb A' c' n c N A how w h hl hm hr hN hA hw
def ReadL (F : Nat → Prop) (b : Nat) (s : Dk) (xs : List Int) (w : World) (e : Ending) (w' : World) : Prop :=
  ∃ g c, e = .returned (.tuple #[.slice (some ⟨g, 0, none⟩) 128 c, .bool true]) ∧ Own w' w.heap.size g c xs ∧ ∃ F', DiskAt w' F' b s ∧ Keep F w w' ∧ Sub F' F w ∧ ¬ F' g
theorem disk_read (F b s) (i : Nat) (xs : List Int) (w : World) (h : DiskAt w F b s) (hi : i < s.blk.length) (hx : s.read i = some xs) (hw : s.wt.length ≤ 1000000) : Calls Try.prog 13 #[.pointer (some ⟨b, 0, none⟩), .int .i64 i] w (ReadL F b s xs w) := by
  have h' := h
  obtain ⟨g, cb, A', c', h⟩ := h
  refine (read_any F b s g cb A' c' i w h (by omega) (by have := h.ok.n2; omega) hw).mono ?_
  rintro e w' ⟨⟨ys, gn, cn, _, _, h1, rfl, ho⟩ | ⟨h1, _⟩, hb⟩
  · rw [Int.toNat_natCast, hx] at h1
    injection h1 with h1
    subst h1
    refine ⟨gn, cn, rfl, ho, F, h'.stay (fun k hk => hb.block k (h'.lt k hk)), Keep.of_below hb, Sub.refl _ _, fun hk => ?_⟩
    have := h'.lt gn hk
    have := ho.lt.1
    omega
  · rw [Int.toNat_natCast, hx] at h1
    rcases h1 with h1 | h1 | h1
    · omega
    · omega
    · cases h1
theorem disk_unread (F b s) (i : Int) (w : World) (h : DiskAt w F b s) (h0 : -9223372036854775808 ≤ i) (h1 : i ≤ 9223372036854775807) (hi : i < 0 ∨ s.blk.length ≤ i ∨ s.read i.toNat = none) (hw : s.wt.length ≤ 1000000) : Calls Try.prog 13 #[.pointer (some ⟨b, 0, none⟩), .int .i64 i] w fun e w' => e = .returned (.tuple #[.slice none 0 0, .bool false]) ∧ Step F b s w w' := by
  have h' := h
  obtain ⟨g, cb, A', c', h⟩ := h
  refine (read_any F b s g cb A' c' i w h h0 h1 hw).mono ?_
  rintro e w' ⟨⟨ys, gn, cn, h2, h3, h4, _⟩ | ⟨_, rfl⟩, hb⟩
  · rcases hi with hi | hi | hi
    · omega
    · omega
    · rw [hi] at h4; cases h4
  · exact ⟨rfl, F, h'.stay (fun k hk => hb.block k (h'.lt k hk)), Keep.of_below hb, Sub.refl _ _⟩
theorem disk_burst (F b s) (i a : Nat) (x : B32) (w : World) (h : DiskAt w F b s) (hi : i < s.blk.length) (ha : a ≤ 124) (hw : s.wt = []) : Calls Try.prog 22 #[.pointer (some ⟨b, 0, none⟩), .int .i64 i, .int .i64 a, .int .u32 (wrd x)] w fun e w' => e = .returned (.bool true) ∧ Step F b (s.burst i a x) w w' := by
  obtain ⟨g, cb, A', c', h⟩ := h
  exact burst_any F b s g cb A' c' i a x w h hi ha hw
theorem disk_unburst (F b s) (i a : Int) (x : B32) (w : World) (h : DiskAt w F b s) (h0 : -9223372036854775808 ≤ i) (h1 : i ≤ 9223372036854775807) (h2 : -9223372036854775808 ≤ a) (h3 : a ≤ 9223372036854775807) (hi : i < 0 ∨ s.blk.length ≤ i ∨ a < 0 ∨ 124 < a ∨ s.wt ≠ []) (hw : s.wt.length ≤ 1000000) : Calls Try.prog 22 #[.pointer (some ⟨b, 0, none⟩), .int .i64 i, .int .i64 a, .int .u32 (wrd x)] w fun e w' => e = .returned (.bool false) ∧ Step F b s w w' := by
  have h' := h
  obtain ⟨g, cb, A', c', h⟩ := h
  refine (unburst_any F b s g cb A' c' i a x w h h0 h1 h2 h3 hi hw).mono ?_
  rintro e w' ⟨rfl, rfl⟩
  exact ⟨rfl, Step.same h'⟩
end Go.Proofs.Ytaehgpieichjkaa
